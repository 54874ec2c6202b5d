import PyProof.Rows.All
import Wide.All
import OpenK.AllK
import Wide.FinOn
import HandS.ForMost
import HandS.Wide
import HandS.IsInst
import HandS.EndBits
import HandS.Flow
import PyProof.ReprRoads
import HandS.Style
import HandS.Strs
import HandS.Zip
import PyProof.StrOps2
import PyProof.StrLawsRepr
import PyProof.ReprLen
import HandS.Walk
import HandS.Codes
import HandS.Set
import PyProof.Rows.SortShellAny
import HandS.SetFor
import HandS.Star
import PyProof.SetRoads
import HandS.Text
import HandS.More
import HandS.SortInts
import HandS.Defaults
import PyProof.TypeEq
import HandS.Gcd
import HandS.WideBits
import KE.KMathGC
import HandS.Replace
import HandS.Conv
import HandS.NoneIn
import KE.DatumOrd
import KE.SortData
import HandS.RevRange
import HandS.GenYield
import HandS.IterNext
import HandS.GenList
import HandS.SetKeys
import HandS.FStr
import HandS.WordsDict
import HandS.DictComp
import HandS.ListItems
import HandS.Deep
import HandS.SetBool
import HandS.Property
import HandS.ClsMeth
import HandS.NamedTupGet
import HandS.ExcCtx
import HandS.ExcIs
import HandS.HotCalls
import HandS.WordsExc
import PySem.Challenge.RW_ghosttext_k09_invalid_texts_of_words
set_option Elab.async false
set_option linter.all false
set_option maxRecDepth 100000
set_option maxHeartbeats 4000000
namespace Gd
open PySem PySem.Spec PyProof.Rows L2
structure GFn (P : Program) (w : World) (K : PySem.W.Frag) (mg : Str → Option Value)
    (base : Heap) (CX : CXT) (k : Nat) (f : Addr) (fd : FuncData) (ps : List Str) (sp : Sp) : Prop where
  many : ∀ vs H Q E, sp vs H Q E → vs.length = ps.length
  go : ∀ (A : Around) (outer : List Env) (s : Shared) (H : Hp) (args : Args) (us : List Value) (vs : List V) (Q : VK) (E : XK),
    A.guards = some [] → Room k A → Env0 P w K mg base A outer s H → BindsTo s fd args (ps.zip us) →
    Vals vs us → sp vs H Q E → codeAny (model P w) A (.call (.ref f) args) (CR CX outer P w H s Q E) s
section
variable {P : Program} {w : World} {K : PySem.W.Frag} {mg : Str → Option Value} {base : Heap}
variable {CX : CXT} {k j : Nat} {f : Addr} {fd : FuncData} {ps N : List Str} {sp : Sp}
theorem GFn.of (F : FnOk P w K mg base CX k f fd ps sp) : GFn P w K mg base CX k f fd ps sp :=
  ⟨F.len, fun A outer s H args us vs Q E _ hr => F.run A outer s H args us vs Q E hr⟩
/-- a def's body, where nothing is being shown -/
theorem GFn.mk' {x qual : Str} {st : Stmt} (F : Fun K x qual st f fd) (S : FnScope N ps (defScope st))
    (len : ∀ vs H Q E, sp vs H Q E → vs.length = ps.length)
    (body : ∀ (cdv : Value) (A : Around) (outer : List Env) (s : Shared) (H : Hp) (vs : List V) (Q : VK) (E : XK),
      A.guards = some [] → Room k (A.deeper (envOfC qual (defScope st) s.heap.objs.size f cdv)) → sp vs H Q E →
      ∃ t, PSs (cxOf CX0 P w K mg base N qual (defScope st) f cdv A outer s H E).nox (defBody st) t ∧
        t { nx := fun _ H' => Q .non H', rt := Q } (start N vs) H) :
    GFn P w K mg base CX0 (k + 1) f fd ps sp := by
  obtain ⟨oc, od, kV, doc, pm, an, cdv, ct, osl, rfl, lk, hcd⟩ := F.ex
  refine ⟨len, fun A outer s H args us vs Q E gd hr e0 hb r hsp => ?_⟩
  have hl := len _ _ _ _ hsp
  have hK : K.In s.heap := e0.mod.kin.keeps fun b o e => (e0.bs b o e).1
  have hlim : s.heap.NoLimit := e0.mod.nolimit.keeps fun b o e => (e0.bs b o e).1
  have kinds : ∀ y ∈ ps.zip us, (defScope st).names.lookup y.1 = some .local ∨
      ((defScope st).names.lookup y.1 = some .cell ∧
        ((cellsFrom (s.heap.objs.size + 1) (defScope st).names []).lookup y.1).isSome = true) := by
    rintro ⟨n, v⟩ hy
    rcases S.par n (List.of_mem_zip hy).1 with q | q
    · exact .inl q
    · exact .inr ⟨q, PySem.W.cellsFrom_some _ _ _ (.inl q)⟩
  refine codeAny_call_function hr.depth (hK _ _ lk) rfl S.co S.gen rfl (PySem.W.codeRec_of hK hcd) (hb _ _ _ _ ?_)
  refine wpAny_newFunctionEnv_cells S.kind kinds fun env he s1 x => ?_
  subst he
  refine ⟨hlim.keeps x.toInCall.keep, codeAny_func ?_⟩
  obtain ⟨t, ht, hq⟩ := body cdv A outer s H vs Q E gd (hr.deeper _) hsp
  have I := inv_start (CX := CX0) (P := P) (mg := mg) (E := E) S hr.hd e0 hl r x
  refine wpAny_mono (ht.nox.run [] s1 (start N vs) H _ I hq) (fun fl s' hs => ?_) fun e s' hs => hs
  cases fl with
  | ret u =>
    obtain ⟨v, σ', H', J, rv, q⟩ := hs
    exact ⟨v, H', J.os, J.bare, J.base, J.hok, rv, q⟩
  | next =>
    obtain ⟨σ', H', J, q⟩ := hs
    exact ⟨V.non, H', J.os, J.bare, J.base, J.hok, rfl, q⟩
  | brk =>
    obtain ⟨_, _, _, q⟩ := hs
    exact False.elim q
  | cont =>
    obtain ⟨_, _, _, q⟩ := hs
    exact False.elim q
end
section
variable {X : Cx} {CX : CXT} {k : Nat} {f : Addr} {fd : FuncData} {ps : List Str} {sp : Sp}
variable {dvs : List V} {ds : List Value} {E : XK}
theorem run_g {pins : List (Addr × Obj)} {σ : L2.St} {H : Hp} {s : Shared} {Q : VK} {us : List Value} {vs : List V}
    (F : GFn X.prog X.w X.K X.mg X.base CX k f fd ps sp) (hg : X.A.guards = some []) (hr : Room k X.A)
    (hb : Binds X.K fd ps ds) (hd : Vals dvs ds) (hx : Passes CX X E) (I : Inv X pins σ H s) (r : Vals vs us)
    (h : sp (vs ++ dvs) H Q E) : wpAny (model X.prog X.w) X.A (call (.ref f) us) (EP X pins σ Q) X.xe s := by
  have r2 := r.append hd
  have hl : (us ++ ds).length = ps.length := by
    rw [← r2.length]
    exact F.many _ _ _ _ h
  refine wpAny_call (codeAny_mono (F.go X.A X.stack s H ⟨us, []⟩ _ _ Q E hg hr I.env0 (hb s us I.kIn hl) r2 h) ?_)
  intro r s' hq
  cases r with
  | error e => exact hx pins σ H s e s' I hq
  | ok fl =>
    cases fl with
    | ret u => exact I.after hq
    | next => exact hq.elim
    | brk => exact hq.elim
    | cont => exact hq.elim
theorem pe_callG {x : Str} {p pos : Pos} {e : Expr} {es : List Expr} {t : TA}
    (F : GFn X.prog X.w X.K X.mg X.base CX k f fd ps sp) (gd : X.A.guards = some []) (hr : Room k X.A) (hg : Gl X x)
    (hm : X.mg x = some (.ref f)) (hk : PySem.W.keepIn X.K (.ref f) = true) (hb : Binds X.K fd ps ds) (hd : Vals dvs ds)
    (hx : Passes CX X E) (ha : PA X (e :: es) t) (hdb : (x == ("__debug__" : Str)) = false := by decide)
    (he : starEach (e :: es) X.env = (false, eval e X.env) :: starEach es X.env := by rfl)
    (hpl : (backTo pos (starEach es X.env)).any (·.1) = false := by rfl) :
    PE X (.Call (.Name x p) (e :: es) [] pos) (tCall sp dvs E t) := by
  refine ⟨fun pins s σ H Q I h => wpAny_Call_Name_kw (ld_glob I hg hm ?_ hdb)⟩
  refine PySem.W.callWith_K (h₀ := X.base) I.ok.mod.kin hk (thn (ha.run pos pins s σ H _ I h) ?_) he hpl
  exact fun us s1 ⟨vs, H1, I1, r, q⟩ => ⟨I1.kIn, run_g F gd hr hb hd hx I1 r q⟩
end
theorem law_callG {P : Program} {w : World} {K : PySem.W.Frag} {mg mb : Str → Option Value} {k : Nat} {fa a : Addr}
    {fd : FuncData} {x : Str} {sp : Sp} {s1 : Shared} {vs : List Value} {ns : List Int} (KX : K.In s1.heap)
    (hns : s1.heap.Ns mainGlobals mg) (hb : s1.heap.Ns builtinsNs mb) (hbb : ∀ x : Str, x ≠ "__name__" → mb x = bootBuiltins x)
    (hlim : s1.heap.NoLimit) (hg : s1.gens = #[]) (ha : s1.heap.get? a = some { cls := .type "list", data := .seq vs.toArray })
    (hi : IntsAre vs ns) (hl : ns.length ≤ sizeLine) (hr : Room k callerA)
    (F : ∀ base : Heap, K.In base → base.Ns mainGlobals mg → GFn P w K mg base CX0 k fa fd [x] sp)
    (hbind : ∀ (s : Shared) (u : Value), BindsTo s fd ⟨[u], []⟩ [(x, u)])
    (hsp : ∀ H : Hp, Only H → SqL K H a (ns.map V.int) → sp [.ref a] H (fun v _ => v = .bl true) fun _ _ _ => False) :
    codeAny (model P w) callerA (.call (.ref fa) ⟨[.ref a], []⟩)
      (fun r s' => r = .ok (.ret (.bool true)) ∧ OldK s1.heap s'.heap ∧ s'.os = s1.os ∧ AllBare s'.gens) s1 := by
  have rv := vals_ints hi
  have lenV := hi.length
  have core : ∀ H : Hp, Only H → SqL K H a (ns.map V.int) → HOk P w H s1.heap → (∀ b, H b ≠ none → b = a) →
      (H a ≠ none → K.lookup a = none) → codeAny (model P w) callerA (.call (.ref fa) ⟨[.ref a], []⟩)
        (fun r s' => r = .ok (.ret (.bool true)) ∧ OldK s1.heap s'.heap ∧ s'.os = s1.os ∧ AllBare s'.gens) s1 := by
    intro H hO hS hok hA hK
    have one : ∀ {b : Addr}, H b ≠ none → b = a := fun {b} z => hA b z
    have noA : ∀ {b : Addr} {o : Obj} {es : Array DictEntry} {ep : Nat}, s1.heap.get? b = some o → o.data = .dict es ep → H b = none := by
      intro b o es ep e d
      cases q : H b with
      | none => rfl
      | some u =>
        have e' : b = a := one (by rw [q]; simp)
        subst e'
        rw [ha] at e; cases e
        exact absurd d (by intro z; cases z)
    have nsK : ∀ {b : Addr} {m : Str → Option Value}, s1.heap.Ns b m → (hidT s1.heap H).Ns b m := by
      rintro b m ⟨o, es, ep, e, d, r⟩
      exact ⟨o, es, ep, hidT_get e (noA e d), d, r⟩
    have hKb : K.In (hidT s1.heap H) := by
      intro b o e
      refine hidT_get (KX b o e) ?_
      cases q : H b with
      | none => rfl
      | some u =>
        have e' : b = a := one (by rw [q]; simp)
        subst e'
        rw [hK (by rw [q]; simp)] at e; cases e
    have hM : Mod K mg (hidT s1.heap H) :=
      ⟨hKb, nsK hns, ⟨mb, nsK hb, hbb⟩, let ⟨mc, h1, h2⟩ := hlim; ⟨mc, nsK h1, h2⟩⟩
    have e0 : Env0 P w K mg (hidT s1.heap H) callerA [] s1 H :=
      ⟨rfl, hM, fun b o e => of_hidT e, Nat.le_of_eq (hidT_size _ _), trivial,
        fun b hb => absurd (show b ∈ ([] : List Addr) from hb) (by simp), hok, .of_eq hg⟩
    have G := F _ hKb (nsK hns)
    refine codeAny_mono (G.go callerA [] s1 H ⟨[.ref a], []⟩ [.ref a] [.ref a] _ _ rfl hr e0 (hbind s1 (.ref a)) (.cons rfl .nil) (hsp H hO hS)) ?_
    intro r s' h
    cases r with
    | error e => exact False.elim h
    | ok fl =>
      cases fl with
      | next => exact h.elim
      | brk => exact h.elim
      | cont => exact h.elim
      | ret u =>
        obtain ⟨v, H', os, bare, un, hok', r', q⟩ := h
        obtain rfl : v = .bl true := q
        obtain rfl : u = Value.bool true := r'
        refine ⟨rfl, OldK.of_keep fun b o e => ?_, os, bare⟩
        cases q : H b with
        | none =>
          refine un.keep b o e q ?_ (by simp)
          intro z
          exact absurd (show b ∈ ([] : List Addr) from z) (by simp)
        | some u =>
          rcases hO b with z | ⟨ob, xs, z⟩
          · rw [q] at z; cases z
          · obtain ⟨e1, _⟩ := hok b _ z
            obtain ⟨e2, _⟩ := hok' b _ (un.frzs b ob _ z)
            rw [e] at e1; cases e1
            exact e2
  cases hk : K.lookup a with
  | some o =>
    have e := KX a o hk
    rw [ha] at e
    cases e
    refine core (fun _ => none) (fun _ => .inl rfl) (.inr ⟨_, vs.toArray, _, hk, rfl, rfl, rfl, ?_, by simpa using rv⟩) ?_ (fun b z => absurd rfl z) fun z => absurd rfl z
    · rw [List.size_toArray, lenV]
      exact hl
    · intro b u z
      have z' : (none : Option HO) = some u := z
      cases z'
  | none =>
    let Hs : Hp := fun b => if b = a then some (.frz { cls := .type "list", data := .seq vs.toArray } (.lst (ns.map V.int))) else none
    have hin : ∀ {b}, b = a → Hs b = some (.frz { cls := .type "list", data := .seq vs.toArray } (.lst (ns.map V.int))) := fun e => if_pos e
    have hout : ∀ {b}, b ≠ a → Hs b = none := fun e => if_neg e
    refine core Hs (fun b => ?_) (.inl (.inr ⟨_, hin rfl⟩)) (fun b u z => ?_) (fun b z => ?_) fun _ => hk
    · by_cases e : b = a
      · exact .inr ⟨_, _, hin e⟩
      · exact .inl (hout e)
    · by_cases e : b = a
      · rw [hin e] at z
        cases z
        subst e
        exact ⟨ha, by rw [List.length_map]; exact hl, vs, _, rv, ha⟩
      · rw [hout e] at z
        cases z
    · by_cases e : b = a
      · exact e
      · exact absurd (hout e) z
/-- the head's goal, from the law's promise -/
theorem walk_ofG {l : PySem.W.OpenLaw} {n k : Nat} {q : Program} {loose : List Str} {XP : (Str → Option Value) → Heap → Prop}
    {YP : World → Heap → Prop} {d : DefRec} {K : Params → PySem.W.Frag} {sp : World → Sp} {x : Str}
    (hn : l.most = some n) (hn2 : n ≤ sizeLine) (hdf : d.params.defaults = []) (hr : Room k callerA)
    (hY : ∀ (w : World) (h : Heap), YP w h → (K w.params).In h)
    (F : ∀ (w : World) (mg : Str → Option Value) (fa : Addr) (h : Heap), (K w.params).In h → h.Ns mainGlobals mg →
      mg d.name = some (.ref fa) → ∃ fd : FuncData, (∀ (s : Shared) (u : Value), BindsTo s fd ⟨[u], []⟩ [(x, u)]) ∧
        ∀ base : Heap, (K w.params).In base → base.Ns mainGlobals mg → GFn l.prog w (K w.params) mg base CX0 k fa fd [x] (sp w))
    (hsp : ∀ (w : World) (H : Hp) (a : Addr) (ns : List Int), ns.length ≤ n → (∀ z ∈ ns, Builtin.Int.intBits z ≤ 1048576) →
      Only H → SqL (K w.params) H a (ns.map V.int) → sp w [.ref a] H (fun v _ => v = .bl true) fun _ _ _ => False) :
    PySem.W.WalkO q loose XP YP l.row.toRowW d [] (fun f vs => PySem.call f vs) := by
  refine Att.attach_callB hn hdf fun w s₀ s₁ mg mb fa o pm cd doc a vs ns G Y ho hd hcd hmg hobj hints hlen hbits hg => ?_
  have KX := hY w _ Y
  obtain ⟨fd, hb, hF⟩ := F w mg fa _ KX G.T.g hmg
  exact law_callG KX G.T.g G.T.b G.T.builtins G.T.nolimit hg hobj hints (Nat.le_trans hlen hn2) hr hF hb
    fun H hO hS => hsp w H a ns hlen hbits hO hS
end Gd
namespace Gd
open PySem PySem.Spec PyProof.Rows L2
abbrev tl (x : Str) : List Nat := x.cps.toList
def uAdd (K : PySem.W.Frag) : R2 := fun x y H Q => match x, y with
  | .int i, .int j => Q (.int (i + j)) H
  | .str a, .str b => a.length + b.length ≤ sizeLine ∧ Q (.str (a ++ b)) H
  | .ref a, .ref b => (∃ xs zs, SqL K H a xs ∧ SqL K H b zs ∧ xs.length + zs.length ≤ sizeLine ∧
      ∀ p, H p = none → Q (.ref p) (upd H p (.lst (xs ++ zs)))) ∨ rCatT K (.ref a) (.ref b) H Q
  | _, _ => False
def uSub : R2 := fun x y H Q => match x, y with
  | .int i, .int j => Q (.int (i - j)) H
  | _, _ => False
def strRep (a : Str) (n : Nat) : Str := ⟨(List.replicate n (tl a)).flatten.toArray⟩
def uMul : R2 := fun x y H Q => match x, y with
  | .int i, .int j => (CMul i j ∨ CMulW i j) ∧ Q (.int (i * j)) H
  | .str a, .int k => (k < 16777217 ∧ -16777217 < k ∧ a.length * k.toNat ≤ sizeLine) ∧ Q (.str (strRep a k.toNat)) H
  | .ref a, .int k => ∃ xs, H a = some (.lst xs) ∧ -(2 ^ 63) ≤ k ∧ k < 2 ^ 63 ∧ xs.length * k.toNat ≤ sizeLine ∧
      ∀ p, H p = none → Q (.ref p) (upd H p (.lst (List.replicate k.toNat xs).flatten))
  | _, _ => False
def uMod : R2 := fun x y H Q => match x, y with
  | .int i, .int j => 0 < j ∧ Q (.int (i % j)) H
  | _, _ => False
def uDiv : R2 := fun x y H Q => match x, y with
  | .int i, .int j => CDivW i j ∧ Q (.int (i / j)) H
  | _, _ => False
def CPowW (i j : Int) : Prop := 0 ≤ j ∧ (Builtin.Int.intBits i : Int) * j ≤ 2 ^ 27
def uPow : R2 := fun x y H Q => match x, y with
  | .int i, .int j => CPowW i j ∧ Q (.int (i ^ j.toNat)) H
  | _, _ => False
def uEq (K : PySem.W.Frag) : R2 := fun x y H Q => (scal x y = true ∧ Q (.bl (decide (x = y))) H) ∨ rEqD K x y H Q
def uNe (K : PySem.W.Frag) : R2 := fun x y H Q => (scal x y = true ∧ Q (.bl (!decide (x = y))) H) ∨ rNeD K x y H Q
def uLt : R2 := fun x y H Q => match x, y with
  | .int i, .int j => Q (.bl (decide (i < j))) H
  | .str a, .str b => Q (.bl (decide (tl a < tl b))) H
  | _, _ => False
def uGt : R2 := fun x y H Q => match x, y with
  | .int i, .int j => Q (.bl (decide (j < i))) H
  | .str a, .str b => Q (.bl (decide (tl b < tl a))) H
  | _, _ => False
def uLe : R2 := fun x y H Q => match x, y with
  | .int i, .int j => Q (.bl (decide (i ≤ j))) H
  | .str a, .str b => Q (.bl (!decide (tl b < tl a))) H
  | _, _ => False
def uIn (K : PySem.W.Frag) : R2 := fun x y H Q => match y with
  | .str z => ∃ c, x = .str ⟨#[c]⟩ ∧ Q (.bl (decide (c ∈ tl z))) H
  | .ref p => ∃ xs, (SqL K H p xs ∨ SqT K H p xs) ∧ flatV x = true ∧ xs.all flatV = true ∧ Q (.bl (inV x xs)) H
  | _ => False
section
variable {X : Cx}
theorem OpR.or {f : Value → Value → Sem Value} {r r' : R2} (h : OpR X f r) (h' : OpR X f r') :
    OpR X f (fun x y H Q => r x y H Q ∨ r' x y H Q) := by
  intro pins s σ H x y v u Q I rx ry q
  rcases q with q | q
  · exact h pins s σ H x y v u Q I rx ry q
  · exact h' pins s σ H x y v u Q I rx ry q
theorem OpR.imp {f : Value → Value → Sem Value} {r r' : R2} (h : OpR X f r) (g : ∀ x y H Q, r' x y H Q → r x y H Q) : OpR X f r' :=
  fun pins s σ H x y v u Q I rx ry q => h pins s σ H x y v u Q I rx ry (g x y H Q q)
theorem op_catQ : OpR X (binaryOp .Add) (fun x y H Q => ∃ a b xs zs, x = .ref a ∧ y = .ref b ∧ SqL X.K H a xs ∧ SqL X.K H b zs ∧ xs.length + zs.length ≤ sizeLine ∧
    ∀ p, H p = none → Q (.ref p) (upd H p (.lst (xs ++ zs)))) := by
  intro pins s σ H x y v u Q I rx ry h
  obtain ⟨l, b, xs, zs, rfl, rfl, hH, hH2, hz, q⟩ := h
  cases rx
  cases ry
  obtain ⟨its, r, ⟨⟨cls, dd, data, sl⟩, n, ho, hc, hd, hs⟩, z1⟩ := I.list hH
  obtain ⟨its2, r2, ⟨⟨cls2, dd2, data2, sl2⟩, n2, ho2, hc2, hd2, hs2⟩, z2⟩ := I.list hH2
  simp only at hc hd hs hc2 hd2 hs2
  subst hc hd hs hc2 hd2 hs2
  have e1 := r.length
  have e2 := r2.length
  have ea : its.toArray ++ its2.toArray = (its ++ its2).toArray := by simp
  refine concat_meets ⟨_, ho, rfl⟩ ⟨_, ho2, rfl⟩ noFill_list_add seq_list_add PySem.F.slot_list_add PySem.F.entry_list_add (PySem.F.args_list_add_2 _ _)
    (list_addW l b its.toArray its2.toArray n n2 none none sl sl2 (by rw [List.size_toArray, List.size_toArray]; omega)) ⟨ho, ho2, ?_⟩
  rw [ea]
  exact ⟨.ref _, _, I.lnew (t' := s.toks) (r.append r2) (by rw [List.length_append]; omega), rfl, q _ I.fresh⟩
theorem ou_add : OpR X (binaryOp .Add) (uAdd X.K) :=
  OpR.imp (OpR.or op_add (OpR.or op_add_str (OpR.or op_catQ op_catT))) fun x y H Q h => by
    cases x <;> cases y <;> first
      | exact False.elim h
      | exact .inl ⟨_, _, rfl, rfl, h⟩
      | exact .inr (.inl ⟨_, _, rfl, rfl, h.1, h.2⟩)
      | skip
    rcases h with ⟨xs, zs, h1, h2, h3, h4⟩ | h
    · exact .inr (.inr (.inl ⟨_, _, xs, zs, rfl, rfl, h1, h2, h3, h4⟩))
    · exact .inr (.inr (.inr h))
theorem ou_sub : OpR X (binaryOp .Sub) uSub := OpR.imp op_sub fun x y H Q h => by
  cases x <;> cases y <;> first
    | exact False.elim h
    | exact ⟨_, _, rfl, rfl, h⟩
theorem foldl_app (z : Array Nat) : ∀ (n : Nat) (acc : Array Nat), ((List.replicate n z).foldl (· ++ ·) acc).toList = acc.toList ++ (List.replicate n z.toList).flatten
  | 0, acc => by simp
  | n + 1, acc => by
    rw [List.replicate_succ, List.foldl_cons, foldl_app z n, List.replicate_succ, List.flatten_cons, Array.toList_append, List.append_assoc]
theorem strRep_len (a : Str) (n : Nat) : (strRep a n).length = a.length * n := by
  show (List.replicate n (tl a)).flatten.toArray.size = a.cps.size * n
  rw [List.size_toArray, List.length_flatten]
  simp [Nat.mul_comm]
theorem tl_rep (a : Str) (n : Nat) : tl (strRep a n) = (List.replicate n (tl a)).flatten := rfl
theorem ou_mulS {a : Str} {k : Int} {t u : Tok} {pins : List (Addr × Obj)} {s : Shared} {σ : L2.St} {H : Hp} {Q : VK} (I : Inv X pins σ H s)
    (hc : k < 16777217 ∧ -16777217 < k ∧ a.length * k.toNat ≤ sizeLine) (q : Q (.str (strRep a k.toNat)) H) :
    wpAny (model X.prog X.w) X.A (binaryOp .Mult (.str a t) (.int k u)) (EP X pins σ Q) X.xe s := by
  obtain ⟨h1, h2, h3⟩ := hc
  have hz := h3
  rw [sizeLine_eq] at h3
  have two : (2 : Int) ^ 63 = 9223372036854775808 := by decide
  refine PySem.P.mul_str ?_ (fun h0 h z => ?_) (fun h0 h => ?_) ?_
  · rw [two, decide_eq_false (by omega), decide_eq_false (by omega)]
    rfl
  · have hk : 0 < k := by omega
    have e1 : (a.length : Int) * k ≤ 16777216 := by
      have e : ((a.length * k.toNat : Nat) : Int) ≤ ((16777216 : Nat) : Int) := Int.ofNat_le.mpr h3
      rw [Int.natCast_mul, Int.toNat_of_nonneg (by omega)] at e
      exact e
    rw [two] at z
    have e2 := Int.mul_ediv_add_emod (9223372036854775808 - 1) k
    have e3 := Int.emod_lt_of_pos (9223372036854775808 - 1) hk
    have e4 : k * ((9223372036854775808 - 1) / k) ≤ k * (a.length : Int) := Int.mul_le_mul_of_nonneg_left (by omega) (by omega)
    rw [Int.mul_comm k (a.length : Int)] at e4
    generalize k * ((9223372036854775808 - 1) / k) = p at *
    generalize (a.length : Int) * k = r at *
    omega
  · unfold PySem.Builtin.Str.tooLong
    exact decide_eq_false (by omega)
  · by_cases h0 : k < 1
    · rw [if_pos h0]
      have e : strRep a k.toNat = Str.empty := by
        rw [show k.toNat = 0 by omega]
        rfl
      exact ⟨Nat.zero_le _, .str _, H, I.tok _, ⟨_, by rw [e]⟩, q⟩
    · rw [if_neg h0]
      by_cases h1' : (k == 1 || a.length == 0) = true
      · rw [if_pos h1']
        have e : strRep a k.toNat = a := by
          rw [Bool.or_eq_true, beq_iff_eq, beq_iff_eq] at h1'
          apply TL.ext_tl
          show tl (strRep a k.toNat) = tl a
          rw [tl_rep]
          rcases h1' with h1' | h1'
          · rw [h1']
            simp
          · have z : tl a = [] := by
              apply List.eq_nil_of_length_eq_zero
              simpa [tl, Str.length] using h1'
            rw [z]
            simp
        exact ⟨.str _, H, I, ⟨t, by rw [e]⟩, q⟩
      · rw [if_neg h1']
        have e : (⟨(List.replicate k.toNat a.cps).foldl (· ++ ·) #[]⟩ : Str) = strRep a k.toNat := by
          apply TL.ext_tl
          show ((List.replicate k.toNat a.cps).foldl (· ++ ·) #[]).toList = (List.replicate k.toNat (tl a)).flatten
          rw [foldl_app]
          simp [tl]
        refine ⟨?_, .str _, H, I.tok _, ⟨_, by rw [e]⟩, q⟩
        rw [e, strRep_len]
        exact hz
def rMulS : R2 := fun x y H Q => ∃ a k, x = .str a ∧ y = .int k ∧ (k < 16777217 ∧ -16777217 < k ∧ a.length * k.toNat ≤ sizeLine) ∧ Q (.str (strRep a k.toNat)) H
theorem op_mulS : OpR X (binaryOp .Mult) rMulS := by
  rintro pins s σ H x y v u Q I rx ry ⟨a, k, rfl, rfl, h, q⟩
  obtain ⟨t, rfl⟩ := rx
  obtain ⟨t', rfl⟩ := ry
  exact ou_mulS I h q
theorem ou_mul : OpR X (binaryOp .Mult) uMul :=
  OpR.imp (OpR.or op_mul (OpR.or op_mulW (OpR.or op_mulS op_rep))) fun x y H Q h => by
    cases x <;> cases y <;> first
      | exact False.elim h
      | exact .inr (.inr (.inl ⟨_, _, rfl, rfl, h.1, h.2⟩))
      | skip
    · rcases h.1 with c | c
      · exact .inl ⟨_, _, rfl, rfl, c, h.2⟩
      · exact .inr (.inl ⟨_, _, rfl, rfl, c, h.2⟩)
    · obtain ⟨xs, h1, h2, h3, h4, h5⟩ := h
      exact .inr (.inr (.inr ⟨_, _, xs, rfl, rfl, h1, h2, h3, h4, h5⟩))
theorem ou_mod : OpR X (binaryOp .Mod) uMod := OpR.imp op_mod fun x y H Q h => by
  cases x <;> cases y <;> first
    | exact False.elim h
    | exact ⟨_, _, rfl, rfl, h.1, h.2⟩
theorem ou_div : OpR X (binaryOp .FloorDiv) uDiv := OpR.imp op_fdivW fun x y H Q h => by
  cases x <;> cases y <;> first
    | exact False.elim h
    | exact ⟨_, _, rfl, rfl, h.1, h.2⟩
theorem op_powW : OpR X (binaryOp .Pow) (rI CPowW fun i j => .int (i ^ j.toNat)) := opI fun _ _ _ _ _ _ _ hc q => pow_int hc.1 hc.2 q
theorem ou_pow : OpR X (binaryOp .Pow) uPow := OpR.imp op_powW fun x y H Q h => by
  cases x <;> cases y <;> first
    | exact False.elim h
    | exact ⟨_, _, rfl, rfl, h.1, h.2⟩
theorem ou_eq (hu : X.A.units + 64 < cLine) : OpR X (compareOp .Eq) (uEq X.K) := OpR.or op_eq (op_eqD hu)
theorem ou_ne (hu : X.A.units + 64 < cLine) : OpR X (compareOp .NotEq) (uNe X.K) := OpR.or op_ne (op_neD hu)
theorem ou_lt : OpR X (compareOp .Lt) uLt := OpR.imp (OpR.or op_lt op_lt_str) fun x y H Q h => by
  cases x <;> cases y <;> first
    | exact False.elim h
    | exact .inl ⟨_, _, rfl, rfl, h⟩
    | exact .inr ⟨_, _, rfl, rfl, h⟩
theorem ou_gt : OpR X (compareOp .Gt) uGt := OpR.imp (OpR.or op_gt op_gt_str) fun x y H Q h => by
  cases x <;> cases y <;> first
    | exact False.elim h
    | exact .inl ⟨_, _, rfl, rfl, h⟩
    | exact .inr ⟨_, _, rfl, rfl, h⟩
theorem ou_le : OpR X (compareOp .LtE) uLe := OpR.imp (OpR.or op_le op_le_str) fun x y H Q h => by
  cases x <;> cases y <;> first
    | exact False.elim h
    | exact .inl ⟨_, _, rfl, rfl, h⟩
    | exact .inr ⟨_, _, rfl, rfl, h⟩
theorem ou_in : OpR X (compareOp .In) (uIn X.K) := OpR.imp (OpR.or op_in_sign op_in_seq) fun x y H Q h => by
  cases y <;> first
    | exact False.elim h
    | (obtain ⟨c, e, q⟩ := h
       exact .inl ⟨c, _, e, rfl, q⟩)
    | (obtain ⟨xs, h1, h2, h3, q⟩ := h
       exact .inr ⟨_, xs, rfl, h1, h2, h3, q⟩)
end
end Gd
namespace Gd
open PySem PySem.Spec PyProof.Rows L2
/-- all that is tracked stays, but at S -/
def Kp (S : List Addr) (H H' : Hp) : Prop := ∀ b o, H b = some o → b ∉ S → H' b = some o
section
variable {S T : List Addr} {H H1 H2 H' : Hp} {a b p : Addr} {o u : HO}
theorem Kp.refl : Kp S H H := fun _ _ h _ => h
theorem Kp.get (k : Kp S H H') (h : H b = some o) (n : b ∉ S) : H' b = some o := k b o h n
theorem Kp.get0 (k : Kp [] H H') (h : H b = some o) : H' b = some o := k b o h (by simp)
theorem Kp.new (k : Kp S H H') (h : H' p = none) : Kp S H (upd H' p o) := fun b u e n => by
  have e2 := k b u e n
  rw [upd_ne (ne_of_none e2 h)]
  exact e2
theorem Kp.mutS (k : Kp S H H') (h : p ∈ S) : Kp S H (upd H' p o) := fun b u e n => by
  rw [upd_ne (fun z => n (by rw [z]; exact h))]
  exact k b u e n
theorem Kp.call (k : Kp S H H1) (l : Kp T H1 H2) (h : ∀ t ∈ T, t ∈ S ∨ H t = none) : Kp S H H2 := fun b u e n =>
  l b u (k b u e n) fun z => (h b z).elim n fun w => by rw [e] at w; cases w
theorem Kp.mem (k : Kp S H H') (h : ∀ t ∈ S, t ∈ T) : Kp T H H' := fun b u e n => k b u e fun z => n (h b z)
theorem Same.kp (s : Same H H') : Kp S H H' := fun b u e _ => s b u e
end
section
variable {X : Cx} {K : PySem.W.Frag} {σ : L2.St} {H : Hp} {Q : VK} {D : Ends} {v x y : V} {ta tb te tc : TE} {r : R2} {t u : TS} {i : Nat}
/-- a test by truth -/
def uTru (K : PySem.W.Frag) (ta : TE) : TT := fun σ H Q => ta σ H fun x H' => ∃ k, TruV K x H' k ∧ Q k H'
theorem u_addI {a b : Int} (q : Q (.int (a + b)) H) : uAdd K (.int a) (.int b) H Q := q
theorem u_addS {a b : Str} (h : a.length + b.length ≤ sizeLine) (q : Q (.str (a ++ b)) H) : uAdd K (.str a) (.str b) H Q := ⟨h, q⟩
theorem u_addL {a b : Addr} {xs zs : List V} (h1 : SqL K H a xs) (h2 : SqL K H b zs) (h3 : xs.length + zs.length ≤ sizeLine)
    (q : ∀ p, H p = none → Q (.ref p) (upd H p (.lst (xs ++ zs)))) : uAdd K (.ref a) (.ref b) H Q := .inl ⟨xs, zs, h1, h2, h3, q⟩
theorem u_subI {a b : Int} (q : Q (.int (a - b)) H) : uSub (.int a) (.int b) H Q := q
theorem u_mulI {a b : Int} (h : CMul a b ∨ CMulW a b) (q : Q (.int (a * b)) H) : uMul (.int a) (.int b) H Q := ⟨h, q⟩
theorem u_mulS {a : Str} {k : Int} (h1 : k < 16777217) (h2 : -16777217 < k) (h3 : a.length * k.toNat ≤ sizeLine) (q : Q (.str (strRep a k.toNat)) H) : uMul (.str a) (.int k) H Q := ⟨⟨h1, h2, h3⟩, q⟩
theorem u_mod {a b : Int} (h : 0 < b) (q : Q (.int (a % b)) H) : uMod (.int a) (.int b) H Q := ⟨h, q⟩
theorem u_div {a b : Int} (h : 0 < b) (h2 : b.natAbs.log2 < 9000) (q : Q (.int (a / b)) H) : uDiv (.int a) (.int b) H Q := ⟨⟨h, h2⟩, q⟩
theorem u_pow {a b : Int} (h : CPowW a b) (q : Q (.int (a ^ b.toNat)) H) : uPow (.int a) (.int b) H Q := ⟨h, q⟩
theorem u_eqI {a b : Int} (q : Q (.bl (decide (a = b))) H) : uEq K (.int a) (.int b) H Q := .inl ⟨rfl, by
  rw [show decide (V.int a = V.int b) = decide (a = b) by simp]
  exact q⟩
theorem u_neI {a b : Int} (q : Q (.bl (!decide (a = b))) H) : uNe K (.int a) (.int b) H Q := .inl ⟨rfl, by
  rw [show decide (V.int a = V.int b) = decide (a = b) by simp]
  exact q⟩
theorem u_eqS {a b : Str} (q : Q (.bl (decide (a = b))) H) : uEq K (.str a) (.str b) H Q := .inl ⟨rfl, by
  rw [show decide (V.str a = V.str b) = decide (a = b) by simp]
  exact q⟩
theorem u_neS {a b : Str} (q : Q (.bl (!decide (a = b))) H) : uNe K (.str a) (.str b) H Q := .inl ⟨rfl, by
  rw [show decide (V.str a = V.str b) = decide (a = b) by simp]
  exact q⟩
theorem u_eqB {a b : Bool} (q : Q (.bl (a == b)) H) : uEq K (.bl a) (.bl b) H Q := .inl ⟨rfl, by
  rw [show decide (V.bl a = V.bl b) = (a == b) by cases a <;> cases b <;> rfl]
  exact q⟩
theorem u_neB {a b : Bool} (q : Q (.bl (!(a == b))) H) : uNe K (.bl a) (.bl b) H Q := .inl ⟨rfl, by
  rw [show decide (V.bl a = V.bl b) = (a == b) by cases a <;> cases b <;> rfl]
  exact q⟩
theorem u_eqD {d e : PyData} (h1 : Dp K H x d) (h2 : Dp K H y e) (h3 : SeqAt.shaped d = true) (h4 : SeqAt.shaped e = true) (q : Q (.bl (PyData.eqv d e)) H) : uEq K x y H Q := .inr ⟨d, e, h1, h2, h3, h4, q⟩
theorem u_neD {d e : PyData} (h1 : Dp K H x d) (h2 : Dp K H y e) (h3 : SeqAt.shaped d = true) (h4 : SeqAt.shaped e = true) (q : Q (.bl (!PyData.eqv d e)) H) : uNe K x y H Q := .inr ⟨d, e, h1, h2, h3, h4, q⟩
theorem u_ltI {a b : Int} (q : Q (.bl (decide (a < b))) H) : uLt (.int a) (.int b) H Q := q
theorem u_gtI {a b : Int} (q : Q (.bl (decide (b < a))) H) : uGt (.int a) (.int b) H Q := q
theorem u_leI {a b : Int} (q : Q (.bl (decide (a ≤ b))) H) : uLe (.int a) (.int b) H Q := q
theorem u_ltS {a b : Str} (q : Q (.bl (decide (tl a < tl b))) H) : uLt (.str a) (.str b) H Q := q
theorem u_gtS {a b : Str} (q : Q (.bl (decide (tl b < tl a))) H) : uGt (.str a) (.str b) H Q := q
theorem u_inS {c : Nat} {z : Str} (q : Q (.bl (decide (c ∈ tl z))) H) : uIn K (.str ⟨#[c]⟩) (.str z) H Q := ⟨c, rfl, q⟩
end
def uLen (K : PySem.W.Frag) : List V → Hp → VK → Prop := fun xs H Q => ∃ x n, xs = [x] ∧ LenV K x H n ∧ Q (.int n) H
theorem cu_len {X : Cx} : CallR X (.builtin "len") (uLen X.K) := call_len
section
variable {K : PySem.W.Frag} {H : Hp} {Q : VK} {a : Addr} {xs : List V}
theorem u_lenS {s : Str} (h : s.length ≤ sizeLine) (q : Q (.int (s.length : Int)) H) : uLen K [.str s] H Q := ⟨_, s.length, rfl, ⟨h, rfl⟩, q⟩
theorem u_lenL (h : SqL K H a xs) (q : Q (.int (xs.length : Int)) H) : uLen K [.ref a] H Q := ⟨_, xs.length, rfl, .inl ⟨xs, h, rfl⟩, q⟩
theorem u_lenT (h : SqT K H a xs) (q : Q (.int (xs.length : Int)) H) : uLen K [.ref a] H Q := ⟨_, xs.length, rfl, .inr ⟨xs, h, rfl⟩, q⟩
end
/-- isinstance by the type's name -/
def kinds : List String := ["NoneType", "bool", "int", "str", "list", "tuple", "dict"]
def isi (T C : String) : Bool := T == C || (T == "bool" && C == "int")
theorem isi_ok : ∀ T ∈ kinds, ∀ C ∈ ["bool", "int", "str", "list", "tuple", "dict"], kitB T C = some (isi T C) := by decide +kernel
inductive TyN (K : PySem.W.Frag) (H : Hp) : V → String → Prop
  | non : TyN K H .non "NoneType"
  | bl (b : Bool) : TyN K H (.bl b) "bool"
  | int (i : Int) : TyN K H (.int i) "int"
  | str (s : Str) : TyN K H (.str s) "str"
  | lst {a : Addr} {xs : List V} (h : SqL K H a xs) : TyN K H (.ref a) "list"
  | tup {a : Addr} {xs : List V} (h : H a = some (.tup xs)) : TyN K H (.ref a) "tuple"
  | dct {a : Addr} {kvs : List (Key × V)} (h : H a = some (.dK kvs)) : TyN K H (.ref a) "dict"
theorem TyN.mem {K : PySem.W.Frag} {H : Hp} {x : V} {T : String} (h : TyN K H x T) : T ∈ kinds := by
  cases h <;> decide
theorem TyN.x {K : PySem.W.Frag} {H : Hp} {x : V} {T : String} (h : TyN K H x T) : TyX K H x (.type T) := by
  cases h with
  | non => exact .base .non
  | bl b => exact .base (.bl b)
  | int i => exact .base (.int i)
  | str s => exact .base (.str s)
  | lst h =>
    rcases h with (h | ⟨o, h⟩) | ⟨o, its, n, h1, h2, _⟩
    · exact .base (.lst h)
    · exact .base (.frz h)
    · exact .kList h1 h2
  | tup h => exact .base (.tup h)
  | dct h => exact .base (.dK h)
def uIsi (K : PySem.W.Frag) : List V → Hp → VK → Prop := fun xs H Q => ∃ x C T, xs = [x, .ty C] ∧ C ∈ ["bool", "int", "str", "list", "tuple", "dict"] ∧ TyN K H x T ∧ Q (.bl (isi T C)) H
theorem cu_isi {X : Cx} : CallR X (.builtin "isinstance") (uIsi X.K) := by
  intro pins s σ H xs us Q I r h
  obtain ⟨x, C, T, rfl, hC, hT, q⟩ := h
  exact call_isi pins s σ H _ us Q I r ⟨x, .ty C, _, .type C, isi T C, rfl, .ty C, hT.x, kit_ty (isi_ok T hT.mem C hC), q⟩
theorem u_isi {K : PySem.W.Frag} {H : Hp} {Q : VK} {x : V} {C T : String} (h : TyN K H x T) (q : Q (.bl (isi T C)) H) (hC : C ∈ ["bool", "int", "str", "list", "tuple", "dict"] := by decide) : uIsi K [x, .ty C] H Q := ⟨x, C, T, rfl, hC, h, q⟩
end Gd
namespace Gd
open PySem PySem.Spec PyProof.Rows L2
mutual
inductive Dq (N : Addr → Prop) (H : Hp) : V → PyData → Prop
  | non : Dq N H .non .none
  | bl (b : Bool) : Dq N H (.bl b) (.bool b)
  | int (i : Int) : Dq N H (.int i) (.int i)
  | str (x : Str) : Dq N H (.str x) (.str x)
  | lst {a : Addr} {xs : List V} {ds : List PyData} (n : N a) (h : H a = some (.lst xs)) (r : DqL N H xs ds) : Dq N H (.ref a) (.list ds)
  | tup {a : Addr} {xs : List V} {ds : List PyData} (n : N a) (h : H a = some (.tup xs)) (r : DqL N H xs ds) : Dq N H (.ref a) (.tuple ds)
  | d0 {a : Addr} (n : N a) (h : H a = some (.dK [])) : Dq N H (.ref a) (.dict [])
inductive DqL (N : Addr → Prop) (H : Hp) : List V → List PyData → Prop
  | nil : DqL N H [] []
  | cons {v : V} {vs : List V} {d : PyData} {ds : List PyData} (h : Dq N H v d) (r : DqL N H vs ds) : DqL N H (v :: vs) (d :: ds)
end
section
variable {N M : Addr → Prop} {H H' : Hp} {S : List Addr}
mutual
theorem Dq.mono (k : ∀ b o, N b → H b = some o → H' b = some o) (m : ∀ b, N b → M b) : ∀ (d : PyData) (v : V), Dq N H v d → Dq M H' v d
  | .none, _, h => by cases h; exact .non
  | .bool b, _, h => by cases h; exact .bl b
  | .int i, _, h => by cases h; exact .int i
  | .str x, _, h => by cases h; exact .str x
  | .list ds, _, h => by
    cases h with
    | lst n h r => exact .lst (m _ n) (k _ _ n h) (DqL.mono k m ds _ r)
  | .tuple ds, _, h => by
    cases h with
    | tup n h r => exact .tup (m _ n) (k _ _ n h) (DqL.mono k m ds _ r)
  | .dict _, _, h => by
    cases h with
    | d0 n h => exact .d0 (m _ n) (k _ _ n h)
theorem DqL.mono (k : ∀ b o, N b → H b = some o → H' b = some o) (m : ∀ b, N b → M b) : ∀ (ds : List PyData) (vs : List V), DqL N H vs ds → DqL M H' vs ds
  | [], _, h => by cases h; exact .nil
  | d :: ds, _, h => by
    cases h with
    | cons h r => exact .cons (Dq.mono k m d _ h) (DqL.mono k m ds _ r)
end
theorem Dq.kp {d : PyData} {v : V} (h : Dq N H v d) (k : Kp S H H') (n : ∀ b, N b → b ∉ S) : Dq N H' v d := Dq.mono (fun b o a e => k b o e (n b a)) (fun _ a => a) d v h
theorem DqL.kp {ds : List PyData} {vs : List V} (h : DqL N H vs ds) (k : Kp S H H') (n : ∀ b, N b → b ∉ S) : DqL N H' vs ds := DqL.mono (fun b o a e => k b o e (n b a)) (fun _ a => a) ds vs h
theorem Dq.new {d : PyData} {v : V} {p : Addr} {o : HO} (h : Dq N H v d) (np : H p = none) : Dq N (upd H p o) v d :=
  Dq.mono (fun b u _ e => by rw [upd_ne (ne_of_none e np)]; exact e) (fun _ a => a) d v h
theorem DqL.new {d : List PyData} {v : List V} {p : Addr} {o : HO} (h : DqL N H v d) (np : H p = none) : DqL N (upd H p o) v d :=
  DqL.mono (fun b u _ e => by rw [upd_ne (ne_of_none e np)]; exact e) (fun _ a => a) d v h
theorem Dq.mut {d : PyData} {v : V} {p : Addr} {o : HO} (h : Dq N H v d) (np : ¬ N p) : Dq N (upd H p o) v d :=
  Dq.mono (fun b u a e => by rw [upd_ne (fun z => np (by rw [← z]; exact a))]; exact e) (fun _ a => a) d v h
theorem DqL.mut {d : List PyData} {v : List V} {p : Addr} {o : HO} (h : DqL N H v d) (np : ¬ N p) : DqL N (upd H p o) v d :=
  DqL.mono (fun b u a e => by rw [upd_ne (fun z => np (by rw [← z]; exact a))]; exact e) (fun _ a => a) d v h
theorem DqL.app : ∀ {vs us : List V} {ds es : List PyData}, DqL N H vs ds → DqL N H us es → DqL N H (vs ++ us) (ds ++ es)
  | [], _, _, _, h, g => by cases h; exact g
  | v :: vs, _, _, _, h, g => by
    cases h with
    | cons h r => exact .cons h (r.app g)
theorem DqL.get : ∀ {vs : List V} {ds : List PyData} {i : Nat} {v : V}, DqL N H vs ds → vs[i]? = some v → ∃ d, ds[i]? = some d ∧ Dq N H v d
  | [], _, i, _, _, e => by simp at e
  | u :: vs, _, 0, v, h, e => by
    cases h with
    | cons h r =>
      simp at e
      subst e
      exact ⟨_, rfl, h⟩
  | u :: vs, _, i + 1, v, h, e => by
    cases h with
    | cons h r =>
      obtain ⟨d, e2, h2⟩ := r.get (i := i) (by simpa using e)
      exact ⟨d, by simpa using e2, h2⟩
theorem dqL_strs : ∀ ws : List Str, DqL N H (ws.map V.str) (ws.map PyData.str)
  | [] => .nil
  | w :: ws => .cons (.str w) (dqL_strs ws)
mutual
theorem Dq.dp {K : PySem.W.Frag} : ∀ (d : PyData) (v : V), d.hasDict = false → Dq N H v d → Dp K H v d
  | .none, _, _, h => by cases h; exact .non
  | .bool b, _, _, h => by cases h; exact .bl b
  | .int i, _, _, h => by cases h; exact .int i
  | .str x, _, _, h => by cases h; exact .str x
  | .list ds, _, z, h => by
    cases h with
    | lst n h r => exact .lst (SqL.of h) (DqL.dp ds _ (by simpa only [PyData.hasDict] using z) r)
  | .tuple ds, _, z, h => by
    cases h with
    | tup n h r => exact .tup (SqT.of h) (DqL.dp ds _ (by simpa only [PyData.hasDict] using z) r)
  | .dict _, _, z, _ => by simp [PyData.hasDict] at z
theorem DqL.dp {K : PySem.W.Frag} : ∀ (ds : List PyData) (vs : List V), PyData.hasDictAll ds = false → DqL N H vs ds → DpAll K H vs ds
  | [], _, _, h => by cases h; exact .nil
  | d :: ds, _, z, h => by
    simp only [PyData.hasDictAll, Bool.or_eq_false_iff] at z
    cases h with
    | cons h r => exact .cons (Dq.dp d _ z.1 h) (DqL.dp ds _ z.2 r)
end
end
theorem noDict_shaped (d : PyData) (h : SeqAt.shaped d = true) : d.hasDict = false := PyData.hasDict_of_canLay d (by
  unfold SeqAt.shaped at h
  simp only [Bool.and_eq_true] at h
  exact h.1)
mutual
def sz : PyData → Nat
  | .none | .bool _ => 5
  | .int _ => 2000
  | .str x => 10 * x.length + 2
  | .list xs | .tuple xs => szAll xs + 5
  | .dict _ => 2
def szAll : List PyData → Nat
  | [] => 0
  | x :: xs => sz x + 2 + szAll xs
end
/-- data, or the empty dict alone -/
inductive DqT (N : Addr → Prop) (H : Hp) : V → PyData → Prop
  | of {v : V} {d : PyData} (h : Dq N H v d) : DqT N H v d
  | d0 {a : Addr} (n : N a) (h : H a = some (.dK [])) : DqT N H (.ref a) (.dict [])
end Gd
namespace Gd
open PySem PySem.Spec PyProof.Rows L2
/-- what a for walks: a list, a tuple, a text -/
def iU (K : PySem.W.Frag) (te : TE) : TI := fun σ H R => te σ H fun v H1 =>
  (∃ a, v = .ref a ∧ (∃ xs, SqL K H1 a xs) ∧ R (Itl K a) H1) ∨ (∃ a, v = .ref a ∧ (∃ xs, SqT K H1 a xs) ∧ R (Itt K a) H1) ∨ ∃ x, v = .str x ∧ R (Its x) H1
theorem pi_u {X : Cx} {tg e : Expr} {te : TE} (he : PE X e te) : PI X tg e (iU X.K te) := by
  refine ⟨fun pins s σ H R I h => ?_⟩
  refine thn (he.run pins s σ H _ I h) fun v s1 ⟨y, H1, I1, r1, q1⟩ => ?_
  have one : ∀ b ∈ [s1.heap.objs.size], FpOk X pins H1 b := fun b hb => by
    rw [show b = s1.heap.objs.size by simpa using hb]
    exact I1.fpOk (Nat.le_refl _) (I1.hok.fresh (Nat.le_refl _))
  rcases q1 with ⟨a, rfl, ⟨xs, hq⟩, q⟩ | ⟨a, rfl, ⟨xs, hq⟩, q⟩ | ⟨x, rfl, q⟩
  · cases r1
    obtain ⟨its, rv, p, hz⟩ := I1.list hq
    exact wpAny_pyIter_list p.isList ⟨s1.heap.objs.size, [s1.heap.objs.size], _, _, H1, rfl,
      I1.kept (t' := s1.toks) fun b o e => Heap.get?_push_of_some _ e, turn_list a _, ⟨_, Heap.get?_push_size _ rfl, rfl, rfl⟩, one, q⟩
  · cases r1
    obtain ⟨its, rv, p, hz⟩ := I1.tuple hq
    exact wpAny_pyIter_tuple (show s1.heap.IsTuple a its.toArray from p) ⟨s1.heap.objs.size, [s1.heap.objs.size], _, _, H1, rfl,
      I1.kept (t' := s1.toks) fun b o e => Heap.get?_push_of_some _ e, turn_tuple a _, ⟨_, Heap.get?_push_size _ rfl, rfl, rfl⟩, one, q⟩
  · obtain ⟨t, rfl⟩ := r1
    cases ha : x.cps.all (· < 128)
    · exact wpAny_pyIter_wide ha (pi_one (tk := s1.toks) I1 _ (turn_str _ x t "str_iterator" (.inr rfl)) ⟨_, Heap.get?_push_size _ rfl, rfl, rfl⟩ q)
    · exact wpAny_pyIter_ascii ha (pi_one (tk := s1.toks) I1 _ (turn_str _ x t "str_ascii_iterator" (.inl rfl)) ⟨_, Heap.get?_push_size _ rfl, rfl, rfl⟩ q)
section
variable {K : PySem.W.Frag} {σ : L2.St} {H : Hp} {D : Ends} {g : TG} {tb : TS} {te : TE} {ta : TA} {Q : VK} {tt : TT} {ws : List Nat}
abbrev inD (D : Ends) (N : L2.St → Hp → Prop) : Ends := { D with nx := N, ct := N, bk := D.nx }
/-- the rest of a for, once its walk J has come -/
def Rf (g : TG) (tb : TS) (D : Ends) (σ : L2.St) (J : It) (H1 : Hp) : Prop := ∃ W : Nat → Nat → L2.St → Hp → Prop, (∃ m, W 0 m σ H1) ∧ ∀ i m σ H, W i m σ H →
  (J.stop i H ∧ D.nx σ H) ∨ (J.go i H ∧ ∃ N : L2.St → Hp → Prop, (∀ σ' H', N σ' H' → ∃ m', m' < m ∧ W (i + 1) m' σ' H') ∧
    ∀ x H', J.yld i H x H' → g x σ H' fun σ2 H2 => tb (inD D N) σ2 H2)
/-- the rest of a comprehension -/
def Rl (g : TG) (tt : TT) (te : TE) (ws : List Nat) (σ : L2.St) (Q : VK) (J : It) (H1 : Hp) : Prop := ∀ D, H1 D = none → ∃ W : Nat → Nat → Hp → Prop,
  (∃ m, W 0 m (upd H1 D (.lst []))) ∧ ∀ i m H, W i m H → (J.stop i H ∧ Q (.ref D) H) ∨ (J.go i H ∧ ∃ Nx : Hp → Prop, (∀ H', Nx H' → ∃ m', m' < m ∧ W (i + 1) m' H') ∧
    ∀ x H', J.yld i H x H' → g x (wipe σ ws) H' fun σ2 H2 => wipe σ2 ws = wipe σ ws ∧ tt σ2 H2 fun b H3 =>
      if b = true then te σ2 H3 fun y H4 => ∃ acc, H4 D = some (.lst acc) ∧ acc.length < sizeLine ∧ Nx (upd H4 D (.lst (acc ++ [y]))) else Nx H3)
def wU (K : PySem.W.Frag) (R : It → Hp → Prop) (v : V) (H1 : Hp) : Prop :=
  (∃ a, v = .ref a ∧ (∃ xs, SqL K H1 a xs) ∧ R (Itl K a) H1) ∨ (∃ a, v = .ref a ∧ (∃ xs, SqT K H1 a xs) ∧ R (Itt K a) H1) ∨ ∃ x, v = .str x ∧ R (Its x) H1
def wR1 (R : It → Hp → Prop) (vs : List V) (H1 : Hp) : Prop := ∃ j : Int, vs = [.int j] ∧ -(2 ^ 62) ≤ j ∧ j < 2 ^ 62 ∧ R (Itr 0 j.toNat) H1
def wE (K : PySem.W.Frag) (R : It → Hp → Prop) (vs : List V) (H1 : Hp) : Prop := ∃ a xs, vs = [.ref a] ∧ SqL K H1 a xs ∧ R (Ite K a) H1
def wZ (K : PySem.W.Frag) (R : It → Hp → Prop) (vs : List V) (H1 : Hp) : Prop := ∃ a b xs ys, vs = [.ref a, .ref b] ∧ SqL K H1 a xs ∧ SqL K H1 b ys ∧ R (Itz K a b) H1
theorem rd_forU (q : te σ H fun v H1 => wU K (Rf g tb D σ) v H1) : tFor (iU K te) g tb D σ H := q
theorem rd_for1 (q : ta σ H fun v H1 => wR1 (Rf g tb D σ) v H1) : tFor (iRng1 ta) g tb D σ H := q
theorem rd_forE (q : ta σ H fun v H1 => wE K (Rf g tb D σ) v H1) : tFor (iEnum K ta) g tb D σ H := q
theorem rd_forZ (q : ta σ H fun v H1 => wZ K (Rf g tb D σ) v H1) : tFor (iZip K ta) g tb D σ H := q
theorem rd_lcU {te1 : TE} (q : te1 σ H fun v H1 => wU K (Rl g tt te ws σ Q) v H1) : tLc (iU K te1) g tt te ws σ H Q := q
theorem rd_lc1 (q : ta σ H fun v H1 => wR1 (Rl g tt te ws σ Q) v H1) : tLc (iRng1 ta) g tt te ws σ H Q := q
theorem rf_it {J : It} {n : Nat} {G : Hp → Prop} {Y : Nat → Hp → V → Hp → Prop} (w : Walk J n G Y) (Pv : Nat → L2.St → Hp → Prop) (h0 : Pv 0 σ H)
    (hG : ∀ i σ H, Pv i σ H → G H) (hs : ∀ i x σ H H', i < n → Pv i σ H → Y i H x H' → g x σ H' fun σ2 H2 => tb (inD D (Pv (i + 1))) σ2 H2)
    (hd : ∀ σ H, Pv n σ H → D.nx σ H) : Rf g tb D σ J H := for_it w Pv h0 (fun i σ H _ p => hG i σ H p) hs hd
/-- one turn: the item's text, kept or not -/
def lcT (g : TG) (tt : TT) (te : TE) (ws : List Nat) (σ : L2.St) (D : Addr) (P : Hp → Prop) (x : V) (H' : Hp) : Prop :=
  g x (wipe σ ws) H' fun σ2 H2 => wipe σ2 ws = wipe σ ws ∧ tt σ2 H2 fun b H3 =>
      if b = true then te σ2 H3 fun y H4 => ∃ acc, H4 D = some (.lst acc) ∧ acc.length < sizeLine ∧ P (upd H4 D (.lst (acc ++ [y]))) else P H3
theorem rl_it {J : It} {n : Nat} {G : Hp → Prop} {Y : Nat → Hp → V → Hp → Prop} (w : Walk J n G Y)
    (h : ∀ C, H C = none → ∃ Pv : Nat → Hp → Prop, Pv 0 (upd H C (.lst [])) ∧ (∀ i H, Pv i H → G H) ∧
      (∀ i x H H', i < n → Pv i H → Y i H x H' → lcT g tt te ws σ C (Pv (i + 1)) x H') ∧ ∀ H, Pv n H → Q (.ref C) H) : Rl g tt te ws σ Q J H := by
  intro C hC
  obtain ⟨Pv, h0, hG, hs, hd⟩ := h C hC
  refine ⟨fun i m H => m = n - i ∧ i ≤ n ∧ Pv i H, ⟨n, by simp, Nat.zero_le _, h0⟩, ?_⟩
  rintro i m H ⟨rfl, hi, p⟩
  by_cases hlt : i < n
  · exact .inr ⟨w.goes i H hlt (hG i H p), Pv (i + 1), fun H' p' => ⟨n - (i + 1), by omega, rfl, hlt, p'⟩, fun x H' y => hs i x H H' hlt p (w.yields i H x H' hlt (hG i H p) y)⟩
  · have e : i = n := by omega
    subst e
    exact .inl ⟨w.stops H (hG i H p), hd H p⟩
end
end Gd
namespace Gd
open PySem PySem.Spec PyProof.Rows L2
/-- a def of the module, by its name: where it stands and what it promises -/
structure GC (P : Program) (w : World) (K : PySem.W.Frag) (mg : Str → Option Value) (base : Heap) (k : Nat) (x : Str) (sp : Sp) : Prop where
  ex : ∃ (f : Addr) (fd : FuncData) (ps : List Str), mg x = some (.ref f) ∧ PySem.W.keepIn K (.ref f) = true ∧ Binds K fd ps [] ∧ GFn P w K mg base CX0 k f fd ps sp
section
variable {X : Cx} {k j : Nat} {sp : Sp} {x : Str} {p pos : Pos} {e : Expr} {es : List Expr} {t : TA} {ta tb tc : TE} {a b c : Expr}
theorem pe_gc (cc : GC X.prog X.w X.K X.mg X.base k x sp) (gd : X.A.guards = some []) (hr : Room j X.A) (hk : k ≤ j) (hg : Gl X x) (ha : PA X (e :: es) t)
    (hdb : (x == ("__debug__" : Str)) = false := by decide) (he : starEach (e :: es) X.env = (false, eval e X.env) :: starEach es X.env := by rfl)
    (hpl : (backTo pos (starEach es X.env)).any (·.1) = false := by rfl) : PE X (.Call (.Name x p) (e :: es) [] pos) (tCall sp [] E0 t) := by
  obtain ⟨f, fd, ps, h1, h2, h3, h4⟩ := cc.ex
  exact pe_callG h4 gd (hr.mono hk) hg h1 h2 h3 .nil pass0 ha hdb he hpl
theorem pt_u (ha : PE X a ta) (he : ∀ whole, isTrue a X.env whole = (do let v ← whole; standAt a.pos; holding [v] (truthy v))) : PT X a (uTru X.K ta) := pt_truth ha he
theorem u_ixL {K : PySem.W.Frag} {H : Hp} {Q : VK} {a : Addr} {xs : List V} {i : Int} {v : V} (h : SqL K H a xs) (e : atI xs i = some v) (q : Q v H) : rIx K (.ref a) (.int i) H Q := .inl ⟨a, xs, i, v, rfl, rfl, h, e, q⟩
theorem u_ixS {K : PySem.W.Frag} {H : Hp} {Q : VK} {z : Str} {i : Int} {c : Nat} (h : z.length ≤ sizeLine) (e : atI (tl z) i = some c) (q : Q (.str ⟨#[c]⟩) H) : rIx K (.str z) (.int i) H Q := .inr (.inr ⟨z, i, c, rfl, rfl, h, e, q⟩)
theorem atI_of {α : Type} {xs : List α} {i : Int} {v : α} (h0 : 0 ≤ i) (e : xs[i.toNat]? = some v) : atI xs i = some v := by
  have q := atI_nat e
  rw [Int.toNat_of_nonneg h0] at q
  exact q
theorem atI_lt {α : Type} {xs : List α} {i : Int} (h0 : 0 ≤ i) (h1 : i < xs.length) : ∃ v, atI xs i = some v ∧ v ∈ xs := by
  have h2 : i.toNat < xs.length := by omega
  exact ⟨xs[i.toNat], atI_of h0 (by simp [h2]), List.getElem_mem h2⟩
theorem bits_le {i : Int} {n : Nat} (h0 : 0 < n) (h : i.natAbs < 2 ^ n) : Builtin.Int.intBits i ≤ n := by
  have e := PySem.Flt.log2_lt_of h0 h
  unfold Builtin.Int.intBits
  split <;> omega
theorem powW {i j : Int} {n : Nat} (h0 : 0 < n) (h : i.natAbs < 2 ^ n) (h1 : 0 ≤ j) (h2 : (n : Int) * j ≤ 2 ^ 27) : CPowW i j := by
  have e := bits_le h0 h
  refine ⟨h1, Int.le_trans (Int.mul_le_mul_of_nonneg_right ?_ h1) h2⟩
  exact Int.ofNat_le.mpr e
theorem ite_nt {A B : Prop} (h : B) : if (!true) = true then A else B := h
theorem ite_nf {A B : Prop} (h : A) : if (!false) = true then A else B := h
theorem log_small {j : Int} (h : j.natAbs < 18446744073709551616) : j.natAbs.log2 < 9000 := by
  have h2 : j.natAbs < 2 ^ 64 := Nat.lt_of_lt_of_le h (by decide)
  have e := PySem.Flt.log2_lt_of (show 0 < 64 by decide) h2
  omega
theorem len_app (a b : Str) : (a ++ b).length = a.length + b.length := by
  rw [TL.len_tl, TL.len_tl, TL.len_tl, TL.tl_append, List.length_append]
theorem len_one (c : Nat) : (⟨#[c]⟩ : Str).length = 1 := rfl
theorem mem_app {a b : Str} {c : Nat} : c ∈ tl (a ++ b) ↔ c ∈ tl a ∨ c ∈ tl b := by
  rw [show tl (a ++ b) = tl a ++ tl b from TL.tl_append a b, List.mem_append]
theorem mem_one {c d : Nat} : c ∈ tl (⟨#[d]⟩ : Str) ↔ c = d := by simp [tl]
theorem Dq.imp {N M : Addr → Prop} {H : Hp} {v : V} {d : PyData} (h : Dq N H v d) (m : ∀ b, N b → M b) : Dq M H v d := Dq.mono (fun _ _ _ e => e) m d v h
theorem DqL.imp {N M : Addr → Prop} {H : Hp} {v : List V} {d : List PyData} (h : DqL N H v d) (m : ∀ b, N b → M b) : DqL M H v d := DqL.mono (fun _ _ _ e => e) m d v h
theorem layAll_map {α : Type} (f : α → PyData) : ∀ ws : List α, (∀ w ∈ ws, (f w).canLay0 = true) → PyData.canLayAll0 (ws.map f) = true
  | [], _ => by simp [PyData.canLayAll0]
  | w :: ws, h => by
    rw [List.map_cons, PyData.canLayAll0, h w (by simp), layAll_map f ws fun v hv => h v (by simp [hv])]
    rfl
theorem depAll_map {α : Type} (f : α → PyData) (n : Nat) : ∀ ws : List α, (∀ w ∈ ws, (f w).depth ≤ n) → PyData.depthAll (ws.map f) ≤ n
  | [], _ => by simp [PyData.depthAll]
  | w :: ws, h => by
    rw [List.map_cons, PyData.depthAll]
    exact Nat.max_le.mpr ⟨h w (by simp), depAll_map f n ws fun v hv => h v (by simp [hv])⟩
theorem shaped_map {α : Type} (f : α → PyData) (ws : List α) (h : ∀ w ∈ ws, (f w).canLay0 = true ∧ (f w).depth ≤ 63) : SeqAt.shaped (.list (ws.map f)) = true := by
  unfold SeqAt.shaped
  rw [Bool.and_eq_true, decide_eq_true_eq]
  refine ⟨?_, ?_⟩
  · rw [PyData.canLay0]
    exact layAll_map f ws fun w hw => (h w hw).1
  · rw [PyData.depth]
    have := depAll_map f 63 ws fun w hw => (h w hw).2
    omega
theorem shaped_strs (ws : List Str) (h : ∀ w ∈ ws, PyData.strOk w = true) : SeqAt.shaped (.list (ws.map PyData.str)) = true :=
  shaped_map _ ws fun w hw => ⟨by rw [PyData.canLay0]; exact h w hw, by simp [PyData.depth]⟩
theorem shaped_ints (ws : List Int) : SeqAt.shaped (.list (ws.map PyData.int)) = true :=
  shaped_map _ ws fun w hw => ⟨by rw [PyData.canLay0], by simp [PyData.depth]⟩
theorem strOk_iff (z : Str) : PyData.strOk z = true ↔ ∀ c ∈ tl z, c < 1114112 := by
  unfold PyData.strOk tl
  rw [← Array.all_toList, List.all_eq_true]
  constructor
  · intro h c hc
    exact of_decide_eq_true (h c hc)
  · intro h c hc
    exact decide_eq_true (h c hc)
theorem lt_one (c d : Nat) : decide (([c] : List Nat) < [d]) = decide (c < d) := by
  rw [decide_eq_decide]
  simp [List.cons_lt_cons_iff]
theorem pss_cut {st : Stmt} {rest : List Stmt} {t u : TS} (h1 : PS X st t) (h2 : PSs X rest u) : PSs X (st :: rest) (C8.tCut t u) := C8.pss_cut h1 h2
def uSl (K : PySem.W.Frag) : V → Option Int → Option Int → Hp → VK → Prop := fun x lo hi H Q => rSlS x lo hi H Q ∨ rSlL K x lo hi H Q ∨ rSlT K x lo hi H Q
theorem sl_u : SlR X (uSl X.K) := SlR.or sl_str (SlR.or sl_list sl_tup)
theorem u_slS {K : PySem.W.Frag} {H : Hp} {Q : VK} {z : Str} {lo hi : Option Int} (h : z.length ≤ sizeLine) (q : Q (.str (cutS z lo hi)) H) : uSl K (.str z) lo hi H Q := .inl ⟨z, rfl, h, q⟩
theorem u_slL {K : PySem.W.Frag} {H : Hp} {Q : VK} {p : Addr} {xs : List V} {lo hi : Option Int} (h : SqL K H p xs) (q : ∀ p, H p = none → Q (.ref p) (upd H p (.lst (cutV xs lo hi)))) :
    uSl K (.ref p) lo hi H Q := .inr (.inl ⟨p, xs, rfl, h, q⟩)
theorem cut_to (z : Str) {d : Int} (h : 0 ≤ d) : tl (cutS z none (some d)) = (tl z).take d.toNat := by
  unfold cutS tl
  have e := HT.sIx_nat z.length z.length d.toNat
  rw [Int.toNat_of_nonneg h] at e
  rw [e, HT.sIx_none]
  simp only [List.drop_zero, Nat.sub_zero]
  have el : z.cps.toList.length = z.length := by simp [Str.length]
  by_cases hd : d.toNat ≤ z.length
  · rw [Nat.min_eq_left hd]
  · rw [Nat.min_eq_right (by omega), List.take_of_length_le (by omega), List.take_of_length_le (by omega)]
theorem cut_mem {z : Str} {lo hi : Option Int} {c : Nat} (h : c ∈ tl (cutS z lo hi)) : c ∈ tl z := List.mem_of_mem_drop (List.mem_of_mem_take h)
theorem cut_to_len (z : Str) {d : Int} (h : 0 ≤ d) : (cutS z none (some d)).length = min d.toNat z.length := by
  rw [TL.len_tl, show TL.tl (cutS z none (some d)) = tl (cutS z none (some d)) from rfl, cut_to z h, List.length_take, ← TL.len_tl]
theorem rd_rU {g : Int → V} {i : Int} {H : Hp} {Q : VK} (q : Q (g i) H) : rU g (.int i) H Q := ⟨i, rfl, q⟩
theorem u_app {H : Hp} {Q : VK} {l : Addr} {xs : List V} {y : V} (h : H l = some (.lst xs)) (hz : xs.length < sizeLine) (q : Q .non (upd H l (.lst (xs ++ [y])))) : rAppend (.ref l) [y] H Q :=
  ⟨l, xs, y, rfl, rfl, h, hz, q⟩
def tPar3 (i j k : Nat) (ta : TA) : TS := fun D σ H => ta σ H fun vs H1 => ∃ v w z, vs = [v, w, z] ∧ D.nx (((σ.set i (some v)).set j (some w)).set k (some z)) H1
theorem ps_par3 {i j k : Nat} {x y z : Str} {ta : TA} {px py pz pt : Pos} {kt k2 pt2} (hc : X.calm = true) (hN : X.N.Nodup) (hi : X.N[i]? = some x) (hj : X.N[j]? = some y) (hk : X.N[k]? = some z)
    (hij : i ≠ j) (hik : i ≠ k) (hjk : j ≠ k) (hx : X.env.scope.names.lookup x = some .local) (hy : X.env.scope.names.lookup y = some .local) (hz : X.env.scope.names.lookup z = some .local)
    (ha : PA X [a, b, c] ta) (hw : swappedStores [.Tuple [.Name x px, .Name y py, .Name z pz] kt pt] (.Tuple [a, b, c] k2 pt2) X.env = pure (some [x, y, z]))
    (hs : swapsWithSole [.Tuple [.Name x px, .Name y py, .Name z pz] kt pt] (.Tuple [a, b, c] k2 pt2) pos.line X.env = pure false := by rfl) :
    PS X (.Assign [.Tuple [.Name x px, .Name y py, .Name z pz] kt pt] (.Tuple [a, b, c] k2 pt2) pos) (tPar3 i j k ta) := by
  refine ⟨fun pins s σ H D I h => ?_⟩
  rw [exec_Assign_arm]
  refine wpAny_bind (wpAny_standAt ?_)
  rw [hs]
  refine wpAny_bind (wpAny_pure ?_)
  rw [if_neg (by decide)]
  refine wpAny_bind (Tuple_ (thn (ha.run _ pins s σ H _ I h) ?_))
  intro us s1 hu
  obtain ⟨vs, H1, I1, r1, q1⟩ := hu
  obtain ⟨v, w, z', e1, q1⟩ := q1
  subst e1
  obtain ⟨u1, us1, rfl, rv, r2⟩ : ∃ u1 us1, us = u1 :: us1 ∧ RelV v u1 ∧ Vals [w, z'] us1 := by
    cases r1 with
    | cons p q => exact ⟨_, _, rfl, p, q⟩
  obtain ⟨u2, us2, rfl, rw', r3⟩ : ∃ u2 us2, us1 = u2 :: us2 ∧ RelV w u2 ∧ Vals [z'] us2 := by
    cases r2 with
    | cons p q => exact ⟨_, _, rfl, p, q⟩
  obtain ⟨u3, rfl, rz⟩ : ∃ u3, us2 = [u3] ∧ RelV z' u3 := by
    cases r3 with
    | cons p q =>
      cases q
      exact ⟨_, rfl, p⟩
  refine wpAny_newObj_type ?_ (by show 3 ≤ sizeLine; decide)
  have I2 : Inv X pins σ H1 { s1 with heap := s1.heap.push { cls := .type "tuple", data := .seq [u1, u2, u3].toArray } } :=
    I1.kept (t' := s1.toks) fun b o e => Heap.get?_push_of_some _ e
  rw [hw]
  refine wpAny_bind (wpAny_pure ?_)
  show wpAny (model X.prog X.w) X.A (do rule "assign.swapped-stores"; let items ← unpackItems (.ref s1.heap.objs.size) 3 none; assignInOrder [fun v => bindName X.env z v, fun v => bindName X.env y v, fun v => bindName X.env x v] items.reverse; pure Flow.next) _ _ _
  refine wpAny_bind (wpAny_rule (wpAny_bind (unpackItems_tuple (items := #[u1, u2, u3]) (I.ok.hd hc) (IsTup.new s1.heap _) fun h' hx' => ?_)))
  have I3 := I2.kept (h' := h') (t' := s1.toks) fun b o e => hx' b o (Nat.ne_of_lt (Heap.lt_size e)) e
  show wpAny _ _ (assignInOrder [fun v => bindName X.env z v, fun v => bindName X.env y v, fun v => bindName X.env x v] [u3, u2, u1] >>= fun _ => pure Flow.next) _ _ _
  refine wpAny_bind (assignInOrder_cons (wpAny_bindName (store_ok I3 hN hk (.inl hz) rz (fun s2 I4 => ?_) (.inr hz))))
  refine assignInOrder_cons (wpAny_bindName (store_ok I4 hN hj (.inl hy) rw' (fun s3 I5 => ?_) (.inr hy)))
  refine assignInOrder_cons (wpAny_bindName (store_ok I5 hN hi (.inl hx) rv (fun s4 I6 => assignInOrder_nil (wpAny_pure ?_)) (.inr hx)))
  rw [List.set_comm _ _ (Ne.symm hjk), List.set_comm _ _ (Ne.symm hik), List.set_comm _ _ (Ne.symm hij)] at I6
  exact ⟨_, H1, I6, q1⟩
end
section
variable {X : Cx} {K : PySem.W.Frag} (h : X.K = K)
include h
theorem kou_add : OpR X (binaryOp .Add) (uAdd K) := by subst h; exact ou_add
theorem kou_eq (hu : X.A.units + 64 < cLine) : OpR X (compareOp .Eq) (uEq K) := by subst h; exact ou_eq hu
theorem kou_ne (hu : X.A.units + 64 < cLine) : OpR X (compareOp .NotEq) (uNe K) := by subst h; exact ou_ne hu
theorem kou_in : OpR X (compareOp .In) (uIn K) := by subst h; exact ou_in
theorem kcu_len : CallR X (.builtin "len") (uLen K) := by subst h; exact cu_len
theorem kcu_isi : CallR X (.builtin "isinstance") (uIsi K) := by subst h; exact cu_isi
theorem kix_seq : IxR X (rIx K) := by subst h; exact ix_seq
theorem ksl_u : SlR X (uSl K) := by subst h; exact sl_u
theorem kpi_u {tg e : Expr} {te : TE} (he : PE X e te) : PI X tg e (iU K te) := by subst h; exact pi_u he
theorem kpe_andT {a b : Expr} {rest : List Expr} {pos : Pos} {ta tb : TE} (ha : PE X a ta) (hb : PE X (.BoolOp .And (b :: rest) pos) tb) : PE X (.BoolOp .And (a :: b :: rest) pos) (tAndT K ta tb) := by subst h; exact pe_andT ha hb
theorem kpe_notT {a : Expr} {pos : Pos} {ta : TE} (ha : PE X a ta) : PE X (.UnaryOp .Not a pos) (tNotT K ta) := by subst h; exact pe_notT ha
theorem kpt_u {a : Expr} {ta : TE} (ha : PE X a ta) (he : ∀ whole, isTrue a X.env whole = (do let v ← whole; standAt a.pos; holding [v] (truthy v))) : PT X a (uTru K ta) := by subst h; exact pt_u ha he
theorem kcr_all (hc : X.calm = true) : CallR X (.builtin "all") (rAll K) := by subst h; exact cr_all hc
theorem kpg_tup {es : List Expr} {k : Nat} {pos : Pos} {t : TGs} {n : Nat} (hc : X.calm = true) (hp : PGs X es t)
    (hn : (assignEach es X.env).length = n := by rfl) (hst : (assignEach es X.env).findIdx? (·.1) = none := by rfl) : PG X (.Tuple es k pos) (gTup K n t) := by subst h; exact pg_tup hc hp hn hst
variable {o e : Expr} {es : List Expr} {to te : TE} {t : TA} {name : Str} {apos cpos : Pos} {T id : String}
  {r : V → List V → Hp → VK → Prop}
theorem kpe_bm (pa : PlainAttrs T) (slot : Slot T name id)
    (hty : typeOf (.builtin id) = pure (.type "method_descriptor"))
    (hm : MtR X id r) (ho : PE X o to) (ha : PA X (e :: es) t)
    (b1 : attributeBase o name X.env (eval o X.env) = eval o X.env := by rfl)
    (b2 : ((backTo cpos (starEach (e :: es) X.env)).all (fun x => !x.1) &&
      (backToKw cpos (keywordEach [] X.env)).all (fun x => x.1.isSome) &&
      decide ((e :: es).length + ([] : List Keyword).length +
        (if ([] : List Keyword).isEmpty then 0 else 1) < 30)) = true := by rfl)
    (b3 : (apos.endLine == cpos.line) = true := by rfl)
    (b4 : starEach (e :: es) X.env = (false, eval e X.env) :: starEach es X.env := by rfl)
    (b5 : (backTo cpos (starEach es X.env)).any (·.1) = false := by rfl) :
    PE X (.Call (.Attribute o name apos) (e :: es) [] cpos) (tBM K T r to t) := by
  subst h
  exact pe_bm pa slot hty hm ho ha b1 b2 b3 b4 b5
theorem kpi_enum {p pos tpos : Pos} {elts : List Expr} {kk : Nat} (hg : Gl X "enumerate")
    (hm : X.mg "enumerate" = none) (ha : PA X [e] t)
    (hs : starEach [e] X.env = [(false, eval e X.env)] := by rfl) :
    PI X (.Tuple elts kk tpos) (.Call (.Name "enumerate" p) [e] [] pos) (iEnum K t) := by
  subst h
  exact pi_enum hg hm ha hs
theorem kpi_zip {e2 : Expr} {p pos tpos : Pos} {elts : List Expr} {kk : Nat} (hg : Gl X "zip")
    (hm : X.mg "zip" = none) (ha : PA X [e, e2] t)
    (hs : starEach [e, e2] X.env = (false, eval e X.env) :: starEach [e2] X.env := by rfl)
    (hpl : (backTo pos (starEach [e2] X.env)).any (·.1) = false := by rfl) :
    PI X (.Tuple elts kk tpos) (.Call (.Name "zip" p) [e, e2] [] pos) (iZip K t) := by
  subst h
  exact pi_zip hg hm ha hs hpl
def rJoin (K : PySem.W.Frag) : V → List V → Hp → VK → Prop := fun x xs H Q => ∃ a p, ∃ ys : List Str, x = .str a ∧ xs = [.ref p] ∧
  (SqL K H p (ys.map V.str) ∨ SqT K H p (ys.map V.str)) ∧
  (ys.map (·.length)).sum + ys.length * a.length ≤ 16777216 ∧ Q (.str (Txt.join a ys)) H
theorem kpe_join (ho : PE X o to) (he : PE X e te)
    (hs : starEach [e] X.env = [(false, eval e X.env)] := by rfl)
    (hb : attributeBase o "join" X.env (eval o X.env) = eval o X.env := by rfl)
    (hl : (apos.endLine == cpos.line) = true := by rfl) :
    PE X (.Call (.Attribute o "join" apos) [e] [] cpos) (tM1 (rJoin K) to te) := by
  subst h
  exact pe_join ho he hs hb hl
end
end Gd
namespace Gd
open PySem PySem.Spec PyProof.Rows L2
def keyT (e : Int × Value) : Str := match e.2 with
  | .str x _ => x
  | _ => Str.empty
def GoodT (w : World) (e : Int × Value) : Prop := ∃ x tk, e.2 = Value.str x tk ∧ e.1 = hashStr w x
/-- the set of texts at a: ks its members, in some order, each once -/
def SetT (w : World) (h : Heap) (a : Addr) (ks : List Str) : Prop :=
  ∃ o es ep t, h.get? a = some o ∧ o.ExactSet ∧ o.data = .set es ep t ∧ (∀ e ∈ es.toList, GoodT w e) ∧
    (es.toList.map keyT).Perm ks ∧ ks.Nodup ∧ es.size < scanBound ∧ t.fits es.size = true ∧
    Ris t.place.toList ∧ (w.params.followText "set-order" = true ∨ t.led = true)
def addT (ks : List Str) (x : Str) : List Str := if x ∈ ks then ks else ks ++ [x]
def dedT (xs : List Str) : List Str := xs.foldl addT []
theorem addT_mem {ks : List Str} {x y : Str} : y ∈ addT ks x ↔ y ∈ ks ∨ y = x := by
  unfold addT
  split
  · exact ⟨.inl, fun h => h.elim id fun e => by rw [e]; assumption⟩
  · simp
theorem foldT_mem : ∀ (xs ks : List Str) (y : Str), y ∈ xs.foldl addT ks ↔ y ∈ ks ∨ y ∈ xs
  | [], ks, y => by simp
  | x :: xs, ks, y => by
    rw [List.foldl_cons, foldT_mem xs, addT_mem, List.mem_cons, or_assoc]
theorem dedT_mem {xs : List Str} {y : Str} : y ∈ dedT xs ↔ y ∈ xs := by
  unfold dedT
  rw [foldT_mem]
  simp
theorem addT_nodup {ks : List Str} {x : Str} (h : ks.Nodup) : (addT ks x).Nodup := by
  unfold addT
  split
  · exact h
  · rename_i n
    rw [List.nodup_append]
    refine ⟨h, by simp, fun a ha b hb e => ?_⟩
    rw [List.mem_singleton.mp hb] at e
    rw [e] at ha
    exact n ha
theorem foldT_nodup : ∀ (xs ks : List Str), ks.Nodup → (xs.foldl addT ks).Nodup
  | [], _, h => h
  | x :: xs, ks, h => foldT_nodup xs _ (addT_nodup h)
theorem dedT_nodup (xs : List Str) : (dedT xs).Nodup := foldT_nodup xs [] .nil
theorem addT_len (ks : List Str) (x : Str) : (addT ks x).length ≤ ks.length + 1 := by
  unfold addT
  split
  · omega
  · simp
theorem foldT_len : ∀ (xs ks : List Str), (xs.foldl addT ks).length ≤ ks.length + xs.length
  | [], ks => by simp
  | x :: xs, ks => by
    have h1 := foldT_len xs (addT ks x)
    have h2 := addT_len ks x
    rw [List.foldl_cons, List.length_cons]
    omega
theorem dedT_len (xs : List Str) : (dedT xs).length ≤ xs.length := by
  have := foldT_len xs []
  simpa [dedT] using this
section
variable {P : Program} {w : World} {A : Around} {E : Value → Shared → Prop} {s : Shared} {h h' : Heap} {a : Addr} {ks : List Str}
theorem SetT.at (R : SetT w h a ks) (k : ∀ o, h.get? a = some o → h'.get? a = some o) : SetT w h' a ks := by
  obtain ⟨o, es, ep, t, ho, r⟩ := R
  exact ⟨o, es, ep, t, k o ho, r⟩
theorem goodT_elems {l : List (Int × Value)} (g : ∀ e ∈ l, GoodT w e) : ElemsOf (PySem.strKind P w) l := fun e he => by
  obtain ⟨k, tk, h1, h2⟩ := g e he
  exact ⟨⟨k, by rw [h1]; exact PySem.strKind_is P w k tk, h2⟩, by rw [h1] <;> rfl⟩
theorem goodT_is {e : Int × Value} (g : GoodT w e) (k : Str) : (PySem.strKind P w).is k e.2 = true ↔ keyT e = k := by
  obtain ⟨k0, tk, h1, _⟩ := g
  unfold keyT
  rw [h1]
  first
    | (show ((k0 == k) = true) ↔ k0 = k; exact beq_iff_eq)
    | (show (decide (k0 = k) = true) ↔ k0 = k; exact decide_eq_true_iff)
    | (show (decide (k = k0) = true) ↔ k0 = k; exact decide_eq_true_iff.trans eq_comm)
theorem goodT_mem {l : List (Int × Value)} (g : ∀ e ∈ l, GoodT w e) (k : Str) : k ∈ l.map keyT ↔ ∃ e ∈ l, (PySem.strKind P w).is k e.2 = true := by
  rw [List.mem_map]
  constructor
  · rintro ⟨e, he, q⟩
    exact ⟨e, he, (goodT_is (g e he) k).2 q⟩
  · rintro ⟨e, he, q⟩
    exact ⟨e, he, (goodT_is (g e he) k).1 q⟩
theorem setT_tail {g : Bool → Sem Unit} (hg : ∀ (b : Bool) (s₁ : Shared) (Q' : Unit → Shared → Prop), Q' () s₁ → wpAny (model P w) A (g b) Q' E s₁)
    {o : Obj} {es : Array (Int × Value)} {ep : Nat} {t : SetTable} (ho : s.heap.get? a = some o) (hex : o.ExactSet) (hd : o.data = .set es ep t)
    {es1 : Array (Int × Value)} {t2 : SetTable} {ks' : List Str} (g1 : ∀ e ∈ es1.toList, GoodT w e) (pm1 : (es1.toList.map keyT).Perm ks') (nd1 : ks'.Nodup)
    (hb1 : es1.size < scanBound) (hf2 : t2.fits es1.size = true) (hr : Ris t2.place.toList)
    (hl : w.params.followText "set-order" = true ∨ t2.led = true) {wasDummy : Bool} {R : Option Bool → Shared → Prop}
    (hR : ∀ h', Heap.SameBut a s.heap h' → SetT w h' a ks' → R (some true) { s with heap := h' }) :
    wpAny (model P w) A (do
        storeSet a es1 t2
        if (!wasDummy && t2.tooFull) = true then do
          g (relayAll t2 es1 (SetTable.grown es1.size)).2.2
          storeSet a (relayAll t2 es1 (SetTable.grown es1.size)).1 (relayAll t2 es1 (SetTable.grown es1.size)).2.1
          pure (some true)
        else pure (some true)) R E s := by
  refine wpAny_bind (wpAny_storeSet_of ho hd ?_ (fits_of_scanBound hb1))
  have ho1 := store_at (es' := es1) (t' := t2) ho hd
  have sb1 := Heap.SameBut.update s.heap a (Obj.putSet es1 t2)
  split
  · have pm := relayAll_perm t2 es1 (SetTable.grown es1.size)
    have hf3 := relayAll_fits t2 es1 (SetTable.grown es1.size)
    have hr3 := relayAll_ris t2 es1 (SetTable.grown es1.size)
    have hl3 := relayAll_led t2 es1 (SetTable.grown es1.size)
    generalize relayAll t2 es1 (SetTable.grown es1.size) = Z at pm hf3 hr3 hl3 ⊢
    obtain ⟨es2, t3, gave⟩ := Z
    dsimp only at pm hf3 hr3 hl3 ⊢
    have hsz : es2.size = es1.size := by rw [← Array.length_toList, pm.length_eq, Array.length_toList]
    refine wpAny_bind (hg _ _ _ ?_)
    refine wpAny_bind (wpAny_storeSet_of ho1 rfl ?_ (fits_of_scanBound (by rw [hsz]; exact hb1)))
    have ho2 := store_at (es' := es2) (t' := t3) ho1 rfl
    refine wpAny_pure (hR _ (sb1.trans (Heap.SameBut.update _ a _)) ?_)
    exact ⟨_, es2, _, t3, ho2, hex, rfl, fun e he => g1 e (pm.mem_iff.mp he), (pm.map keyT).trans pm1, nd1,
      by rw [hsz]; exact hb1, hf3, hr3, hl.imp id fun z => by rw [hl3]; exact z⟩
  · exact wpAny_pure (hR _ sb1 ⟨_, es1, _, t2, ho1, hex, rfl, g1, pm1, nd1, hb1, hf2, hr, hl⟩)
theorem setT_add {k : Str} {tk : Tok} {Q : Bool → Shared → Prop} (R : SetT w s.heap a ks) (room : ks.length + 1 < scanBound)
    (hQ : ∀ b h', Heap.SameBut a s.heap h' → SetT w h' a (addT ks k) → Q b { s with heap := h' }) :
    wpAny (model P w) A (setAddHashed a (.str k tk) ((PySem.strKind P w).hash k)) Q E s := by
  obtain ⟨o, es, ep, t, ho, hex, hd, g, pk0, nd, hb, hf, hr, hl⟩ := R
  have hn : es.size = ks.length := by rw [← pk0.length_eq, List.length_map, Array.length_toList]
  have hkey : (PySem.strKind P w).is k (.str k tk) = true := PySem.strKind_is P w k tk
  have hsc : (Value.str k tk).scannable = true := rfl
  have hel : ElemsOf (PySem.strKind P w) es.toList := goodT_elems g
  unfold setAddHashed setAddHashedIn
  refine wpAny_holding (wpAny_bind (wpAny_setState_of ho hd hf ?_))
  dsimp only
  rw [byScan_of hsc hb hel]
  simp only [↓reduceIte]
  unfold setAddByScan
  refine wpAny_bind ?_
  refine wpAny_bind (wpAny_rule ?_)
  refine wpAny_bind (wpAny_setScan_of hkey ho hd hf hel ?_)
  cases hfi : List.findIdx? (fun e => (PySem.strKind P w).is k e.2) es.toList with
  | some j =>
    dsimp only
    obtain ⟨hj, pj, _⟩ := List.findIdx?_eq_some_iff_getElem.mp hfi
    have hk : k ∈ ks := pk0.mem_iff.mp ((goodT_mem (P := P) g k).2 ⟨es.toList[j], List.getElem_mem hj, pj⟩)
    have e : addT ks k = ks := if_pos hk
    refine wpAny_pure (wpAny_pure ?_)
    refine hQ _ s.heap (Heap.SameBut.refl a s.heap) ?_
    rw [e]
    exact ⟨o, es, ep, t, ho, hex, hd, g, pk0, nd, hb, hf, hr, hl⟩
  | none =>
    dsimp only
    have hnk : k ∉ es.toList.map keyT := fun z => by
      obtain ⟨e, he, q⟩ := (goodT_mem (P := P) g k).1 z
      have c := List.findIdx?_eq_none_iff.mp hfi e he
      rw [q] at c
      cases c
    have hnk2 : k ∉ ks := fun z => hnk (pk0.mem_iff.mpr z)
    have ea : addT ks k = ks ++ [k] := if_neg hnk2
    have hgw : ∀ (b : Bool) {s₁ : Shared} {Q' : Unit → Shared → Prop}, Q' () s₁ →
        wpAny (model P w) A (match b with | true => rule "set.scan.the-table-gave-way" | false => pure ()) Q' E s₁ :=
      fun b s₁ Q' q => by cases b <;> first | exact wpAny_pure q | exact wpAny_rule q
    have pm := layNew_perm t es ((PySem.strKind P w).hash k) (.str k tk)
    have hf1 := layNew_fits t es ((PySem.strKind P w).hash k) (.str k tk)
    have hr1 := layNew_ris t es ((PySem.strKind P w).hash k) (.str k tk) hr
    have hl1 := layNew_led t es ((PySem.strKind P w).hash k) (.str k tk)
    generalize layNew t es ((PySem.strKind P w).hash k) (.str k tk) = Z at pm hf1 hr1 hl1 ⊢
    obtain ⟨es1, t1, wasDummy, gave⟩ := Z
    dsimp only at pm hf1 hr1 hl1 ⊢
    rw [Array.toList_push] at pm
    have g1 : ∀ e ∈ es1.toList, GoodT w e := fun e he => by
      rcases List.mem_append.mp (pm.mem_iff.mp he) with z | z
      · exact g e z
      · rw [List.mem_singleton.mp z]
        exact ⟨k, tk, rfl, rfl⟩
    have pk : (es1.toList.map keyT).Perm (addT ks k) := by
      rw [ea]
      refine (pm.map keyT).trans ?_
      rw [List.map_append]
      exact pk0.append (List.Perm.refl _)
    have nd1 : (addT ks k).Nodup := addT_nodup nd
    have hsz : es1.size = ks.length + 1 := by rw [← Array.length_toList, pm.length_eq, List.length_append, Array.length_toList, hn]; rfl
    have hb1 : es1.size < scanBound := by rw [hsz]; exact room
    have hled : w.params.followText "set-order" = true ∨ t1.led = true := hl.imp id fun z => by rw [hl1]; exact z
    have fin : ∀ h', Heap.SameBut a s.heap h' → SetT w h' a (addT ks k) → Q true { s with heap := h' } := fun h' sb r => hQ true h' sb r
    refine wpAny_bind (hgw _ ?_)
    split
    · refine wpAny_bind ?_
      rw [hashByValue_scannable 8 hsc]
      refine wpAny_pure ?_
      refine setT_tail ?_ ho hex hd g1 pk nd1 hb1 ?_ ?_ ?_ ?_
      · intro b s₁ Q' q
        cases b <;> first | exact wpAny_pure q | exact wpAny_rule q
      · first | (split <;> first | exact hf1 | exact SetTable.fits_plain_off hf1) | exact hf1
      · first | (split <;> exact hr1) | exact hr1
      · first | (split <;> exact hled) | exact hled
      · intro h' sb r
        dsimp only
        exact wpAny_pure (fin h' sb r)
    · refine wpAny_bind (wpAny_pure ?_)
      simp only [↓reduceIte]
      refine setT_tail ?_ ho hex hd g1 pk nd1 hb1 hf1 hr1 hled ?_
      · intro b s₁ Q' q
        cases b <;> first | exact wpAny_pure q | exact wpAny_rule q
      · intro h' sb r
        dsimp only
        exact wpAny_pure (fin h' sb r)
end
section
variable {prog : Program} {w : World} {A : Around} {R : Result → Shared → Prop} {I : Addr} {fp wr : List Addr}
  {G : Array GenState → Array GenState → Prop} {n : Nat} {P : Nat → Value → Prop} {St : Nat → Shared → Prop}
theorem loopT (W : WalksS prog w A.in1 I fp wr G n P St) (S : Addr) (hSf : S ∉ fp) (xs : List Str) (hsz : xs.length = n) (hn1 : n < 4000)
    (hval : ∀ i v, P i v → ∃ t, v = .str (xs.getD i Str.empty) t) :
    ∀ (k i : Nat) (s : Shared), n - i = k → i ≤ n → St i s → SetT w s.heap S (dedT (xs.take i)) →
      (∀ s', Moved (S :: wr) G s s' → SetT w s'.heap S (dedT xs) → R (.ok (.ret .none)) s') →
      codeAny (model prog w) A (.builtin "set.update.loop" ⟨[.ref S, .ref I], []⟩) R s := by
  have hSw : S ∉ wr := fun h => hSf (W.sub _ h)
  have hsub : ∀ b ∈ wr, b ∈ S :: wr := fun b hb => List.mem_cons_of_mem _ hb
  intro k
  induction k with
  | zero =>
    intro i s hk hi hst hS hR
    have hin : i = n := by omega
    subst hin
    rw [List.take_of_length_le (by omega)] at hS
    refine codeAny_builtin PyProof.Rows.F.entry_set_update_loop ?_
    rw [Around.under_plainId PyProof.Rows.F.plain_set_update_loop _]
    show wpAny _ A.in1 (pyNext (.ref I) >>= _) _ _ s
    refine wpAny_bind (W.done s _ _ hst fun s' hm => ?_)
    show wpAny _ A.in1 (ret Value.none) _ _ s'
    exact wpAny_pure (hR s' (hm.mono hsub) (hS.at fun o ho => hm.heap S _ hSw ho))
  | succ k ih =>
    intro i s hk hi hst hS hR
    have hlt : i < n := by omega
    refine codeAny_builtin PyProof.Rows.F.entry_set_update_loop ?_
    rw [Around.under_plainId PyProof.Rows.F.plain_set_update_loop _]
    show wpAny _ A.in1 (pyNext (.ref I) >>= _) _ _ s
    refine wpAny_bind (W.item i s _ _ hlt hst fun v s' hP hst' hm => ?_)
    obtain ⟨t, rfl⟩ := hval i v hP
    have hS' : SetT w s'.heap S (dedT (xs.take i)) := hS.at fun o ho => hm.heap S _ hSw ho
    show wpAny _ A.in1 (holding [Value.str (xs.getD i Str.empty) t] (setAdd S (.str (xs.getD i Str.empty) t)) >>= _) _ _ s'
    refine wpAny_bind (wpAny_holding ?_)
    unfold setAdd
    refine wpAny_holding ?_
    refine wpAny_bind ((PySem.strKind prog w).pyHash (k := xs.getD i Str.empty) (PySem.strKind_is _ _ _ _) ?_)
    have room : (dedT (xs.take i)).length + 1 < scanBound := by
      have := dedT_len (xs.take i)
      rw [List.length_take] at this
      unfold scanBound
      omega
    refine setT_add (P := prog) (s := { s' with toks := s'.toks + 1 }) hS' room fun b h' hsb hS2 => ?_
    have ed : addT (dedT (xs.take i)) (xs.getD i Str.empty) = dedT (xs.take (i + 1)) := by
      have hi' : i < xs.length := by omega
      rw [List.take_add_one, List.getElem?_eq_getElem hi', Option.toList_some]
      unfold dedT
      rw [List.foldl_append, List.foldl_cons, List.foldl_nil]
      simp [hi']
    rw [ed] at hS2
    refine wpAny_pure ⟨plainId_quiet PyProof.Rows.F.plain_set_update_loop _, ih (i + 1) _ (by omega) hlt (W.frame _ s' _ _ hst' (Nat.le_succ _) fun b hb o e => ?_) hS2 fun s'' hm'' hS'' => ?_⟩
    · rw [hsb.2 b (fun h : b = S => hSf (by rw [← h]; exact hb))]
      exact e
    · refine hR s'' (Moved.trans W.gtrans ((hm.mono hsub).then_heap (Nat.le_succ _) fun b o hb e => ?_) hm'') hS''
      rw [hsb.2 b (fun h : b = S => hb (by rw [h]; exact List.mem_cons_self))]
      exact e
end
section
variable {prog : Program} {w : World} {A : Around} {E : Value → Shared → Prop} {s : Shared}
/-- a set as it is born -/
abbrev bornS (w : World) : Obj := { cls := .type "set", dict := none, data := .set #[] 0 (.fresh 0 0 (!w.params.followText "set-order")) }
theorem setT_born {h : Heap} (w : World) : SetT w (h.push (bornS w)) h.objs.size [] := by
  refine ⟨_, #[], 0, _, Heap.get?_push_size _ rfl, ⟨rfl, rfl, rfl⟩, rfl, fun e he => by simp at he, by simp, .nil, by decide, by rfl, List.Pairwise.nil, ?_⟩
  show _ ∨ (!w.params.followText "set-order") = true
  cases w.params.followText "set-order"
  · exact .inr rfl
  · exact .inl rfl
theorem code_setT (a : Value) {Q₁ : Value → Shared → Prop} (h : Q₁ (.ref s.heap.objs.size) { s with heap := s.heap.push (bornS w) }) :
    codeAny (model prog w) A (.call (.builtin "set.__new__") ⟨[.type "set", a], []⟩) (wants Q₁ E) s := by
  refine codeAny_of_tree ?_
  show wpAny _ A.in1 (do
    checkBuiltinCall "set.__new__" ⟨[.type "set", a], []⟩
    again (.builtin "set.__new__" ⟨[.type "set", a], []⟩)) _ _ s
  refine wpAny_bind (wpAny_of_eq (show checkBuiltinCall "set.__new__" ⟨[.type "set", a], []⟩ = pure () by kernel_rfl) (wpAny_pure ?_))
  refine ⟨plainId_quiet PySem.F.plain_set_new _, codeAny_builtin PySem.F.entry_set_new ?_⟩
  rw [Around.under_plainId PySem.F.plain_set_new _]
  unfold Builtin.«set.__new__» Builtin.Frozenset.newClass
  have hsub := sub_set_self
  obtain ⟨hp, g, d, tk, os⟩ := s
  dsimp only
  wp_walk
  refine wpAny_askSetting (wpAny_pure ?_)
  dsimp only
  simp only [newObj]
  exact wpAny_bind (wpAny_alloc (wpAny_pure (wpAny_pure h)))
theorem strs_nth : ∀ {vs : List Value} {xs : List Str}, PyProof.Rows.StrsAre vs xs → ∀ (i : Nat) (v : Value), vs[i]? = some v → ∃ t, v = .str (xs.getD i Str.empty) t
  | _, _, .nil, i, v, h => by simp at h
  | _, _, .cons n t hr, 0, v, h => by
    simp at h
    exact ⟨t, by rw [← h]; rfl⟩
  | _, _, .cons n t hr, i + 1, v, h => by
    obtain ⟨t', e⟩ := strs_nth hr i v (by simpa using h)
    exact ⟨t', by rw [e]; rfl⟩
set_option maxHeartbeats 3200000 in
theorem call_setT {l : Addr} {items : Array Value} {xs : List Str} {Q : Value → Shared → Prop} (hh : A.handled = none)
    (hl : s.heap.IsList l items) (hi : PyProof.Rows.StrsAre items.toList xs) (hn1 : xs.length < 4000)
    (h : ∀ (h' : Heap) (tk : Nat), SetT w h' s.heap.objs.size (dedT xs) →
      (∀ b o, b < s.heap.objs.size → s.heap.get? b = some o → h'.get? b = some o) → Q (.ref s.heap.objs.size) { s with heap := h', toks := tk }) :
    wpAny (model prog w) A (call (.type "set") [.ref l]) Q E s := by
  obtain ⟨c, tl, hmro⟩ := PySem.F.called_set.mro
  have hmade := PySem.F.called_set.made
  have hsub := PySem.F.called_set.sub
  refine wpAny_call (codeAny_of_tree ?_)
  show wpAny _ _ (callAny (.type "set") _) _ _ _
  refine wpAny_pure ⟨Code.quiet_builtin _ (by decide +kernel), codeAny_builtin PySem.F.entry_type_call ?_⟩
  rw [Around.under_plain (weight_type_call_type "set" [.ref l] []) rfl]
  have h1 := PySem.F.called_set.notType
  have h2 := PySem.F.called_set.canCreate
  have hct := PySem.F.typeCall_set_1 (.ref l)
  repeat (any_goals (first | assumption | wp_step))
  refine codeAny_mono (code_setT (.ref l) (E := E) (Q₁ := fun obj s₁ => obj = .ref s.heap.objs.size ∧
    s₁ = { s with heap := s.heap.push (bornS w) }) ⟨rfl, rfl⟩) fun r s₁ hr => ?_
  cases r with
  | error e => exact hr
  | ok fl =>
    cases fl with
    | ret obj =>
      obtain ⟨rfl, rfl⟩ := hr
      have hS : (s.heap.push (bornS w)).get? s.heap.objs.size = some (bornS w) := Heap.get?_push_size _ rfl
      have hT : Shared.TypeIs { s with heap := s.heap.push (bornS w) } (.ref s.heap.objs.size) "set" := ⟨_, hS, rfl⟩
      have hli := PySem.F.called_set.init.lookup
      have hbi := PySem.F.called_set.init.bind (.ref s.heap.objs.size)
      repeat (any_goals (first | assumption | wp_step))
      refine codeAny_mono (codeAny_call_builtin (R := wants (fun r s₂ => r = .none ∧ ∃ h' tk, s₂ = { s with heap := h', toks := tk } ∧
        SetT w h' s.heap.objs.size (dedT xs) ∧ (∀ b o, b < s.heap.objs.size → s.heap.get? b = some o → h'.get? b = some o)) E)
        PySem.F.called_set.init.plain PySem.F.entry_set_init (check_set_init_1 hT ?_)) fun r₂ s₂ hr₂ => ?_
      · obtain ⟨ol, hol, hcl, nl, hdl⟩ := hl
        obtain ⟨ocls, odict, odata, oslots⟩ := ol
        simp only at hcl hdl
        subst hcl
        subst hdl
        have hol' : (s.heap.push (bornS w)).get? l = some { cls := .type "list", dict := odict, data := .seq items nl, slots := oslots } := Heap.get?_push_of_some _ hol
        have hsls := PySem.F.sub_list_set
        have hslf := PySem.F.sub_list_frozenset
        have hne : (Value.type "list" == Value.type "dict") = false := by decide
        have hl1 : (s.heap.push (bornS w)).IsList l items := ⟨_, hol', rfl, nl, rfl⟩
        unfold Builtin.«set.__init__» noKeywords Builtin.Frozenset.updateFrom
        generalize hPI : pyIter = PI
        wp_walk
        subst hPI
        refine wpAny_pyIter_list hl1 (wpAny_bind (wpAny_runValue ?_))
        have hlS : l < s.heap.objs.size := Heap.lt_size hol
        have hh3 : A.in1.in1.in1.handled = none := by simp [hh]
        have hneI : l ≠ (s.heap.push (bornS w)).objs.size := by
          rw [Heap.size_push]
          exact Nat.ne_of_lt (Nat.lt_succ_of_lt hlS)
        have hSf : s.heap.objs.size ∉ [(s.heap.push (bornS w)).objs.size, l] := by
          rw [Heap.size_push]
          simp only [List.mem_cons, List.mem_singleton, List.not_mem_nil, or_false, not_or]
          exact ⟨Nat.ne_of_lt (Nat.lt_succ_self _), Nat.ne_of_gt hlS⟩
        have hsz : xs.length = items.size := by
          rw [← StrsAre.len_eq hi, Array.length_toList]
        have hval : ∀ (i : Nat) (v : Value), items[i]? = some v → ∃ t, v = .str (xs.getD i Str.empty) t :=
          fun i v hv => strs_nth hi i v (by rw [Array.getElem?_toList]; exact hv)
        refine loopT ((Walks.list hh3 _ l hneI items).toS) s.heap.objs.size hSf xs hsz (by rw [← hsz]; exact hn1) hval
          (items.size - 0) 0 _ (by omega) (Nat.zero_le _) ⟨⟨_, Heap.get?_push_size _ rfl, rfl, rfl⟩, (hl1.push _)⟩ ?hS0 ?hR
        case hS0 =>
          exact (setT_born w).at fun o ho => Heap.get?_push_of_some _ ho
        case hR =>
          intro s' hm hS'
          obtain ⟨h', g', d', tk', os'⟩ := s'
          obtain rfl : g' = s.gens := hm.gens
          obtain rfl : d' = s.drawn := hm.drawn
          obtain rfl : os' = s.os := hm.os
          show wpAny _ _ _ _ _ _
          refine wpAny_pure ?_
          show wpAny _ _ (ret Value.none) _ _ _
          refine wpAny_pure ⟨rfl, h', tk', rfl, hS', fun b o hb e => ?_⟩
          refine hm.heap b o ?_ (Heap.get?_push_of_some _ (Heap.get?_push_of_some _ e))
          simp only [List.mem_cons, List.mem_singleton, List.not_mem_nil, or_false, not_or]
          refine ⟨Nat.ne_of_lt hb, ?_⟩
          rw [Heap.size_push]
          exact Nat.ne_of_lt (Nat.lt_succ_of_lt hb)
      · cases r₂ with
        | error e => exact hr₂
        | ok fl₂ =>
          cases fl₂ with
          | ret r =>
            obtain ⟨rfl, h', tk, rfl, hS', hk'⟩ := hr₂
            repeat (any_goals (first | assumption | wp_step))
            exact h _ _ hS' hk'
          | _ => exact hr₂.elim
    | _ => exact hr.elim
end
section
variable {P : Program} {w : World} {A : Around} {E : Value → Shared → Prop} {s : Shared} {a : Addr} {ks : List Str}
def rawT : Value → Str
  | .str x _ => x
  | _ => Str.empty
theorem strs_of : ∀ (l : List Value), (∀ v ∈ l, ∃ k tk, v = Value.str k tk) → PyProof.Rows.StrsAre l (l.map rawT)
  | [], _ => .nil
  | v :: l, h => by
    obtain ⟨k, tk, rfl⟩ := h v List.mem_cons_self
    exact .cons k tk (strs_of l fun u hu => h u (List.mem_cons_of_mem _ hu))
theorem sorted_setT {Q : Value → Shared → Prop} (R : SetT w s.heap a ks) (hh : A.handled = none)
    (hQ : ∀ s' p (out : Array Value) (c : Nat) (ys : List Str), (∀ b o, s.heap.get? b = some o → s'.heap.get? b = some o) → s'.gens = s.gens → s'.os = s.os →
      s.heap.objs.size ≤ p → s'.heap.get? p = some (seqObj "list" out c) → PyProof.Rows.StrsAre out.toList ys → ys.Perm ks → sortedS ys = true → Q (.ref p) s') :
    wpAny (model P w) A (call (.builtin "sorted") [.ref a]) Q E s := by
  obtain ⟨o, es, ep, t, ho, hex, hd, g, pk0, nd, hb, hf, hr, hl⟩ := R
  refine Calls.call_function_entry kind_sorted plain_sorted entry_sorted (args_sorted1 _) ?_
  unfold Builtin.«sorted»
  refine wpAny_bind (m := checkCount "sorted" 1 1 _) (wpAny_pure ?_)
  refine wpAny_bind (collect_set (A := A.in1) hh ⟨o, ho, hex.1, hd⟩ hf hb hr hl fun s1 vs k1 hz g1 o1 pm => ?_)
  have hvl : vs.length < scanBound := by
    rw [pm.length_eq, List.length_map, Array.length_toList]
    exact hb
  have hvz : vs.length ≤ sizeLine := fits_of_scanBound hvl
  have hI : PyProof.Rows.StrsAre vs (vs.map rawT) := strs_of vs fun v hv => by
    obtain ⟨e, he, q⟩ := List.mem_map.mp (pm.mem_iff.mp hv)
    obtain ⟨k, tk, h1, _⟩ := g e he
    exact ⟨k, tk, by rw [← q]; exact h1⟩
  have pk : (vs.map rawT).Perm ks := by
    have q := pm.map rawT
    rw [List.map_map] at q
    exact q.trans pk0
  refine wpAny_bind (wpAny_newList ?_ hvz)
  have hoL : (s1.heap.push (seqObj "list" vs.toArray 0)).get? s1.heap.objs.size = some (seqObj "list" vs.toArray 0) := Heap.get?_push_size _ rfl
  refine wpAny_bind (wpAny_holding (wpAny_call_entry slot_list_sort ⟨_, hoL, rfl⟩ entry_list_sort
    (list_sort_treeKAny strKind_oneLt hoL hI.keysOf (fun v₁ v₂ rest e => keyKind_strs (by rw [← e]; exact hI)) hvz fun st' hp hs => ⟨_, rfl, ?_⟩) (args_list_sort _)))
  obtain ⟨ys, h1, h2, h3⟩ := sorted_out_str hI hp hs
  obtain ⟨c, hc⟩ := sortedHeap_at (vs := vs) (out := (arrOf st').map (·.2)) hoL
  refine wpAny_pure ⟨_, rfl, hQ _ s1.heap.objs.size _ c ys (fun b u e => ?_) g1 o1 hz hc h1 (h2.trans pk) h3⟩
  have q := k1 b u e
  have hlt := Heap.lt_size q
  show (sortedHeap (s1.heap.push (seqObj "list" vs.toArray 0)) s1.heap.objs.size vs _).get? b = some u
  rw [sortedHeap_old (Nat.ne_of_lt hlt) (by rw [size_push']; exact Nat.lt_succ_of_lt hlt)]
  exact Heap.get?_push_of_some _ q
end
def SetTO (w : World) (a : Addr) (ks : List Str) : HO := .ext fun h => SetT w h a ks
section
variable {X : Cx} {pins : List (Addr × Obj)} {σ : L2.St} {H : Hp} {s : Shared} {a : Addr} {ks : List Str}
theorem setTO_new {P : Program} {w : World} {H : Hp} {h : Heap} (R : SetT w h a ks) : ObjOk P w H h a (SetTO w a ks) :=
  ⟨R, by obtain ⟨o, es, ep, t, ho, _⟩ := R; exact ⟨o, ho⟩, fun _ _ r k => SetT.at r k⟩
theorem setTO_get (I : Inv X pins σ H s) (ha : H a = some (SetTO X.w a ks)) : SetT X.w s.heap a ks := (I.hok a _ ha).1
/-- set(list of texts) -/
def uSet (K : PySem.W.Frag) (w : World) : List V → Hp → VK → Prop := fun vs H Q => ∃ (a : Addr) (xs : List Str), vs = [.ref a] ∧ SqL K H a (xs.map V.str) ∧ xs.length < 4000 ∧
  ∀ p, H p = none → Q (.ref p) (upd H p (SetTO w p (dedT xs)))
theorem cu_set (hc : X.calm = true) : CallR X (.type "set") (uSet X.K X.w) := by
  intro pins s σ H vs us Q I r h
  obtain ⟨a, xs, rfl, hS, hz, q⟩ := h
  obtain ⟨its, rv, pl, _⟩ := I.list hS
  rw [Vals.ref1 r]
  refine call_setT (w := X.w) (I.ok.hd hc) pl.isList (by simpa using Vals.strs rv) hz fun h' tk hS' hk => ?_
  have hn : H s.heap.objs.size = none := I.hok.fresh (Nat.le_refl _)
  refine ⟨.ref s.heap.objs.size, _, I.laid (t' := tk) (fun b o e => hk b o (Heap.lt_size e) e) (Nat.le_refl _) (setTO_new hS'), rfl, q _ hn⟩
/-- sorted(set of texts), sorted(list of texts) -/
def uSorted (K : PySem.W.Frag) (w : World) : List V → Hp → VK → Prop := fun vs H Q => ∃ (a : Addr) (xs : List Str), vs = [.ref a] ∧
  (H a = some (SetTO w a xs) ∨ (SqL K H a (xs.map V.str) ∧ xs.length ≤ 100000)) ∧
  ∀ p ys, H p = none → ys.Perm xs → sortedS ys = true → Q (.ref p) (upd H p (.lst (ys.map V.str)))
theorem cu_sorted (hc : X.calm = true) : CallR X (.builtin "sorted") (uSorted X.K X.w) := by
  intro pins s σ H vs us Q I r h
  obtain ⟨a, xs, rfl, hS, q⟩ := h
  rw [Vals.ref1 r]
  rcases hS with hS | ⟨hS, hz⟩
  · have R := setTO_get I hS
    have hlen : xs.length ≤ sizeLine := by
      obtain ⟨o, es, ep, t, ho, hex, hd, g, pk0, nd, hb, _⟩ := R
      rw [← pk0.length_eq, List.length_map, Array.length_toList]
      exact fits_of_scanBound hb
    refine sorted_setT R (I.ok.hd hc) fun s' p out c ys k g o hp hg hi pm hs => ?_
    have hn : H p = none := I.hok.fresh hp
    have hl : (ys.map V.str).length ≤ sizeLine := by
      rw [List.length_map, pm.length_eq]
      exact hlen
    have J : Inv X pins σ (upd H p (.lst (ys.map V.str))) { s with heap := s'.heap, gens := s'.gens, drawn := s'.drawn, toks := s'.toks } :=
      I.call (ch := []) (Un.laid k hp hn) (I.hok.laid k hp ⟨hl, out.toList, c, vals_of_strs hi, hg⟩) (by rw [g]; exact I.bare) (fun _ z => nomatch z)
    have e : s' = { s with heap := s'.heap, gens := s'.gens, drawn := s'.drawn, toks := s'.toks } := by
      cases s'
      cases s
      cases o
      rfl
    rw [e]
    exact ⟨.ref p, _, J, rfl, q p ys hn pm hs⟩
  · obtain ⟨its, rv, pl, hz2⟩ := I.list hS
    have hS2 := Vals.strs rv
    refine sorted_strsAny pl.isList hS2 (by rw [← rv.length]; exact hz2) fun out ys h1 h2 h3 => ?_
    obtain ⟨c, hcc⟩ := sortedAll_at s.heap its out
    have hn : H (s.heap.objs.size + 1) = none := I.hok.fresh (Nat.le_succ _)
    refine ⟨.ref (s.heap.objs.size + 1), _, I.laid (o := .lst (ys.map V.str)) (t' := s.toks) (fun _ _ => sortedAll_old) (Nat.le_succ _) (show ObjOk X.prog X.w _ _ _ (.lst (ys.map V.str)) from ⟨?_, out.toList, c, vals_of_strs h1, hcc⟩), rfl, q _ ys hn h2 h3⟩
    rw [List.length_map, h2.length_eq, sizeLine_eq]
    omega
end
end Gd
namespace Gd
open PySem PySem.Spec PyProof.Rows L2
/-- texts in ascending order -/
theorem risingS_pw : ∀ (ss : List Str) (p : Str), risingS p ss = true → (p :: ss).Pairwise fun a b => ¬ (tl b < tl a)
  | [], p, _ => List.pairwise_singleton _ _
  | x :: r, p, h => by
    rw [risingS, Bool.and_eq_true] at h
    have h1 : ¬ (tl x < tl p) := by
      have := h.1
      rw [ltCps_eq] at this
      simpa using this
    have ih := risingS_pw r x h.2
    refine List.Pairwise.cons (fun b hb => ?_) ih
    rcases List.mem_cons.1 hb with e | e
    · rw [e]; exact h1
    · have h2 : ¬ (tl b < tl x) := (List.pairwise_cons.1 ih).1 b e
      exact List.not_lt.2 (List.le_trans (List.not_lt.1 h1) (List.not_lt.1 h2))
theorem sortedS_pw : ∀ {ss : List Str}, sortedS ss = true → ss.Pairwise fun a b => ¬ (tl b < tl a)
  | [], _ => List.Pairwise.nil
  | x :: r, h => risingS_pw r x h
end Gd
namespace Gd
open PySem PySem.Spec PyProof.Rows L2
theorem TyN.b {K : PySem.W.Frag} {H : Hp} {x : V} {T : String} (h : TyN K H x T) : TyB K H x T := by
  cases h with
  | non => exact .non
  | bl b => exact .bl b
  | int i => exact .int i
  | str s => exact .str s
  | lst h => exact .lst h
  | tup h => exact .tup (SqT.of h)
  | dct h => exact .dK h
def uTyp (K : PySem.W.Frag) : List V → Hp → VK → Prop := fun xs H Q => ∃ x T, xs = [x] ∧ TyN K H x T ∧ Q (.ty T) H
theorem cu_typ {X : Cx} : CallR X (.type "type") (uTyp X.K) := by
  intro pins s σ H xs us Q I r h
  obtain ⟨x, T, e, t, q⟩ := h
  exact call_type1 pins s σ H xs us Q I r ⟨x, T, e, t.b, q⟩
theorem kcu_typ {X : Cx} {K : PySem.W.Frag} (h : K = X.K) : CallR X (.type "type") (uTyp K) := by
  subst h
  exact cu_typ
theorem tyty {a : String} (h : a ∈ ["NoneType", "bool", "int", "str", "list", "tuple", "dict"]) : ∀ s : Shared, s.TypeIs (.type a) "type" := by
  simp only [List.mem_cons, List.not_mem_nil, or_false] at h
  rcases h with rfl | rfl | rfl | rfl | rfl | rfl | rfl
  · exact TypeEq.meta_NoneType
  · exact TypeEq.meta_bool
  · exact TypeEq.meta_int
  · exact TypeEq.meta_str
  · exact TypeEq.meta_list
  · exact TypeEq.meta_tuple
  · exact TypeEq.meta_dict
def uEqT : R2 := fun x y H Q => ∃ a b, x = .ty a ∧ y = .ty b ∧ a ∈ ["NoneType", "bool", "int", "str", "list", "tuple", "dict"] ∧ b ∈ ["NoneType", "bool", "int", "str", "list", "tuple", "dict"] ∧ Q (.bl (decide (a = b))) H
theorem ou_eqT {X : Cx} : OpR X (compareOp .Eq) uEqT := by
  intro pins s σ H x y v u Q I rx ry h
  obtain ⟨a, b, rfl, rfl, ha, hb, q⟩ := h
  cases (show v = Value.type a from rx)
  cases (show u = Value.type b from ry)
  by_cases e : a = b
  · subst e
    rw [decide_eq_true rfl] at q
    exact TypeEq.eq_type_same (tyty ha) ⟨.bl true, H, I, rfl, q⟩
  · rw [decide_eq_false e] at q
    exact TypeEq.eq_type_other (tyty ha) (tyty hb) (beq_eq_false_iff_ne.mpr fun z => e (Value.type.inj z)) ⟨.bl false, H, I, rfl, q⟩
theorem rd_typ {K : PySem.W.Frag} {H : Hp} {Q : VK} {x : V} {T : String} (t : TyN K H x T) (q : Q (.ty T) H) : uTyp K [x] H Q := ⟨x, T, rfl, t, q⟩
theorem GFn.no {P : Program} {w : World} {K : PySem.W.Frag} {mg : Str → Option Value} {base : Heap} {CX : CXT} {k : Nat} {f : Addr} {fd : FuncData} {ps : List Str} : GFn P w K mg base CX k f fd ps (fun _ _ _ _ => False) :=
  ⟨fun _ _ _ _ h => h.elim, fun _ _ _ _ _ _ _ _ _ _ _ _ _ _ h => h.elim⟩
section
variable {X : Cx} {K : PySem.W.Frag} {w : World} {e : Expr} {es : List Expr} {te : TE} {t : TA}
theorem kcu_set (h : K = X.K) (hw : w = X.w) (hc : X.calm = true) : CallR X (.type "set") (uSet K w) := by
  subst h hw
  exact cu_set hc
theorem kpe_revL {k : Nat} {p1 p2 p3 pos : Pos} (h : K = X.K) (he : PE X e te) : PE X (.Subscript e (.Slice none none (some (.UnaryOp .USub (.Constant (.int 1) k p1) p2)) p3) pos) (tRevL K te) := by
  subst h
  exact pe_revL he
end
theorem u_set {K : PySem.W.Frag} {w : World} {H : Hp} {Q : VK} {a : Addr} {xs : List Str} (h : SqL K H a (xs.map V.str)) (hz : xs.length < 4000) (q : ∀ p, H p = none → Q (.ref p) (upd H p (SetTO w p (dedT xs)))) : uSet K w [.ref a] H Q :=
  ⟨a, xs, rfl, h, hz, q⟩
theorem u_sortedS {K : PySem.W.Frag} {w : World} {H : Hp} {Q : VK} {a : Addr} {xs : List Str} (h : H a = some (SetTO w a xs))
    (q : ∀ p ys, H p = none → ys.Perm xs → sortedS ys = true → Q (.ref p) (upd H p (.lst (ys.map V.str)))) : uSorted K w [.ref a] H Q := ⟨a, xs, rfl, .inl h, q⟩
end Gd
namespace Gd
open PySem PySem.Spec PyProof.Rows L2
def uIsi2 (K : PySem.W.Frag) : List V → Hp → VK → Prop := fun xs H Q => ∃ x tp A B T, xs = [x, .ref tp] ∧ H tp = some (.tup [.ty A, .ty B]) ∧
  A ∈ ["bool", "int", "str", "list", "tuple", "dict"] ∧ B ∈ ["bool", "int", "str", "list", "tuple", "dict"] ∧ TyN K H x T ∧ Q (.bl (isi T A || isi T B)) H
theorem cu_isi2 {X : Cx} : CallR X (.builtin "isinstance") (uIsi2 X.K) := by
  intro pins s σ H xs us Q I r h
  obtain ⟨x, tp, A, B, T, rfl, hp, hA, hB, hT, q⟩ := h
  refine call_isiT pins s σ H _ us Q I r ⟨x, tp, _, _, [.type A, .type B], isi T A || isi T B, rfl, hp, .cons (.ty A) (.cons (.ty B) .nil), hT.x, ?_, q⟩
  refine kitAny_cons (kit_ty (isi_ok T hT.mem A hA)) (fun e => ?_) (fun e => by rw [e]; rfl)
  refine kitAny_cons (kit_ty (isi_ok T hT.mem B hB)) (fun e2 => ?_) (fun e2 => by rw [e2, Bool.or_true])
  rw [e, e2]
  exact kitAny_nil
theorem kcu_isi2 {X : Cx} {K : PySem.W.Frag} (h : K = X.K) : CallR X (.builtin "isinstance") (uIsi2 K) := by
  subst h
  exact cu_isi2
theorem u_isi2 {K : PySem.W.Frag} {H : Hp} {Q : VK} {x : V} {tp : Addr} {A B T : String} (h : TyN K H x T) (hp : H tp = some (.tup [.ty A, .ty B])) (q : Q (.bl (isi T A || isi T B)) H)
    (hA : A ∈ ["bool", "int", "str", "list", "tuple", "dict"] := by decide) (hB : B ∈ ["bool", "int", "str", "list", "tuple", "dict"] := by decide) : uIsi2 K [x, .ref tp] H Q :=
  ⟨x, tp, A, B, T, rfl, hp, hA, hB, h, q⟩
def adj : List Str → Option (Str × Str)
  | x :: y :: r => if Txt.startswith y x = true then some (x, y) else adj (y :: r)
  | _ => none
/-- no two different ones clash -/
def NC (ws : List Str) : Prop := ∀ x ∈ ws, ∀ y ∈ ws, x ≠ y → Txt.startswith y x = false
end Gd
namespace Gd
open PySem PySem.Spec PyProof.Rows L2
end Gd
namespace Gd
open PySem PySem.Spec PyProof.Rows L2
theorem NC.sub {ws us : List Str} (h : NC ws) (m : ∀ u ∈ us, u ∈ ws) : NC us := fun x hx y hy => h x (m x hx) y (m y hy)
end Gd
namespace Gd
open PySem PySem.Spec PyProof.Rows L2
end Gd
namespace Gd
open PySem PySem.Spec PyProof.Rows L2
end Gd
namespace Gd
open PySem PySem.Spec PyProof.Rows L2
/-- what stands in an attribute: data, or a cell at a told place -/
inductive FV where
  | d (x : PyData)
  | a (q : Addr)
/-- a list or a dict that may change -/
inductive Cell where
  | l (xs : List PyData)
  | m (kvs : List (Key × PyData))
  /-- a list whose place is told; a dict of such places -/
  | la (a : Addr) (xs : List PyData) | mc (kvs : List (Key × Addr))
  /-- a dict that changes no more -/
  | fz (kvs : List (Key × PyData))
  /-- such a dict, for the time that it is locked: the very object -/
  | fx (o : Obj) (vs : List (Key × V)) (kvs : List (Key × PyData))
  /-- an object of the class at C -/
  | ob (C : Addr) (fs : List (Str × FV))
/-- a value: data; a new list that nothing else holds; a list that is only read; the script; a cell; kinds; a set of texts -/
inductive W where
  | d (x : PyData) | o (xs : List PyData) | b (xs : List PyData) | s (xs : List PyData) | c (k : Nat) | ty (n : String) | tt (n m : String) | set (ks : List Str) | lc (ks : List Nat) | x (a : Addr) | dm (kvs : List (Key × PyData)) | od (kvs : List (Key × PyData))
abbrev Ev := List (Option W)
abbrev Cs := List Cell
section
variable {K : PySem.W.Frag} {w : World}
inductive FvOk (G : Addr → Prop) (H : Hp) : V → FV → Prop
  | d {v : V} {x : PyData} (h : Dq G H v x) : FvOk G H v (.d x)
  | a {q : Addr} : FvOk G H (.ref q) (.a q)
inductive CellOk (G : Addr → Prop) (H : Hp) : Addr → Cell → Prop
  | l {p : Addr} {vs : List V} {xs : List PyData} (h : H p = some (.lst vs)) (r : DqL G H vs xs) : CellOk G H p (.l xs)
  | m {p : Addr} {vs : List (Key × V)} {kvs : List (Key × PyData)} (h : H p = some (.dK vs)) (r : Paired (fun (a : Key × V) (b : Key × PyData) => a.1 = b.1 ∧ Dq G H a.2 b.2) vs kvs) : CellOk G H p (.m kvs)
  | la {p : Addr} {vs : List V} {xs : List PyData} (h : H p = some (.lst vs)) (r : DqL G H vs xs) : CellOk G H p (.la p xs)
  | fz {p : Addr} {o : Obj} {vs : List (Key × V)} {kvs : List (Key × PyData)} (h : H p = some (.frz o (.dK vs))) (r : Paired (fun (a : Key × V) (b : Key × PyData) => a.1 = b.1 ∧ Dq G H a.2 b.2) vs kvs) : CellOk G H p (.fz kvs)
  | fx {p : Addr} {o : Obj} {vs : List (Key × V)} {kvs : List (Key × PyData)} (h : H p = some (.frz o (.dK vs))) (r : Paired (fun (a : Key × V) (b : Key × PyData) => a.1 = b.1 ∧ Dq G H a.2 b.2) vs kvs) : CellOk G H p (.fx o vs kvs)
  | ob {p C dx : Addr} {vs : List (Str × V)} {fs : List (Str × FV)} (h : H p = some (.ins C dx vs)) (r : Paired (fun (a : Str × V) (b : Str × FV) => a.1 = b.1 ∧ FvOk G H a.2 b.2) vs fs) : CellOk G H p (.ob C fs)
  | mc {p : Addr} {kvs : List (Key × Addr)} (h : H p = some (.dK (kvs.map fun a => (a.1, V.ref a.2)))) : CellOk G H p (.mc kvs)
/-- the heap under the cells c at ρ, data within G -/
structure Hx (B G : Addr → Prop) (ρ : List Addr) (c : Cs) (H : Hp) : Prop where
  nd : ρ.Nodup
  av : ∀ p ∈ ρ, ¬ G p
  avb : ∀ p ∈ ρ, ¬ B p
  live : ∀ p, G p → H p ≠ none
  liveb : ∀ p, B p → H p ≠ none
  cells : Paired (CellOk G H) ρ c
/-- cells in a list -/
inductive LcR (ρ : List Addr) : List V → List Nat → Prop
  | nil : LcR ρ [] []
  | cons {q : Addr} {k : Nat} {vs : List V} {ks : List Nat} (h : ρ[k]? = some q) (t : LcR ρ vs ks) : LcR ρ (.ref q :: vs) (k :: ks)
theorem LcR.mono {ρ ρ' : List Addr} {vs : List V} {ks : List Nat} (m : ∀ k ∈ ks, ∀ q, ρ[k]? = some q → ρ'[k]? = some q) (h : LcR ρ vs ks) : LcR ρ' vs ks := by
  induction h with
  | nil => exact .nil
  | cons h _ ih => exact .cons (m _ (by simp) _ h) (ih fun k hk => m k (by simp [hk]))
inductive Sh (K : PySem.W.Frag) (w : World) (B G : Addr → Prop) (ρ : List Addr) (H : Hp) : V → W → Prop
  | d {v : V} {x : PyData} (h : Dq G H v x) : Sh K w B G ρ H v (.d x)
  | o {p : Addr} {vs : List V} {xs : List PyData} (h : H p = some (.lst vs)) (r : DqL G H vs xs) (g : ¬ G p) (b : ¬ B p) (n : p ∉ ρ) : Sh K w B G ρ H (.ref p) (.o xs)
  | b {p : Addr} {vs : List V} {xs : List PyData} (h : H p = some (.lst vs)) (r : DqL G H vs xs) (b : B p) : Sh K w B G ρ H (.ref p) (.b xs)
  | s {p : Addr} {ns : List Int} (h : (Rd H p (.lst (ns.map V.int)) ∧ B p) ∨ ∃ (o : Obj) (its : Array Value) (n : Nat), K.lookup p = some o ∧ o.cls = .type "list" ∧ o.dict = none ∧ o.data = .seq its n ∧ its.size ≤ sizeLine ∧ Vals (ns.map V.int) its.toList) : Sh K w B G ρ H (.ref p) (.s (ns.map PyData.int))
  | c {p : Addr} {k : Nat} (h : ρ[k]? = some p) : Sh K w B G ρ H (.ref p) (.c k)
  | ty {n : String} : Sh K w B G ρ H (.ty n) (.ty n)
  | tt {p : Addr} {n m : String} (h : H p = some (.tup [.ty n, .ty m])) (g : G p) : Sh K w B G ρ H (.ref p) (.tt n m)
  | set {p : Addr} {ks : List Str} (h : H p = some (SetTO w p ks)) (g : G p) : Sh K w B G ρ H (.ref p) (.set ks)
  | lc {p : Addr} {vs : List V} {ks : List Nat} (h : H p = some (.lst vs)) (g : G p) (r : LcR ρ vs ks) : Sh K w B G ρ H (.ref p) (.lc ks)
  | x {a : Addr} : Sh K w B G ρ H (.ref a) (.x a)
  | dm {p : Addr} {o : Obj} {vs : List (Key × V)} {kvs : List (Key × PyData)} (h : H p = some (.frz o (.dK vs))) (r : Paired (fun (a : Key × V) (b : Key × PyData) => a.1 = b.1 ∧ Dq G H a.2 b.2) vs kvs) (g : G p) : Sh K w B G ρ H (.ref p) (.dm kvs)
  | od {p : Addr} {vs : List (Key × V)} {kvs : List (Key × PyData)} (h : H p = some (.dK vs)) (r : Paired (fun (a : Key × V) (b : Key × PyData) => a.1 = b.1 ∧ Dq G H a.2 b.2) vs kvs) (g : ¬ G p) (b : ¬ B p) (n : p ∉ ρ) : Sh K w B G ρ H (.ref p) (.od kvs)
/-- from a heap to a later one -/
structure Ext (G : Addr → Prop) (ρ : List Addr) (H : Hp) (G' : Addr → Prop) (ρ' : List Addr) (H' : Hp) : Prop where
  kp : Kp ρ H H'
  tr : ∀ b, H b ≠ none → H' b ≠ none
  pre : ∃ ys, ρ' = ρ ++ ys ∧ ∀ y ∈ ys, H y = none
  gr : ∀ p, G p → G' p
  nw : ∀ p, G' p → G p ∨ H p = none
/-- what slots need of a later heap -/
structure Stay (B G : Addr → Prop) (ρ : List Addr) (H : Hp) (G' : Addr → Prop) (ρ' : List Addr) (H' : Hp) : Prop where
  kg : ∀ b o, G b → H b = some o → H' b = some o
  kb : ∀ b o, B b → H b = some o → H' b = some o
  gr : ∀ p, G p → G' p
  pre : ∃ ys, ρ' = ρ ++ ys
def W.noO : W → Bool
  | .o _ => false
  | .od _ => false
  | _ => true
/-- new since H -/
def Fr (H : Hp) (v : V) : W → Prop
  | .o _ => ∃ p, v = .ref p ∧ H p = none
  | .od _ => ∃ p, v = .ref p ∧ H p = none
  | _ => True
def So (K : PySem.W.Frag) (w : World) (B G : Addr → Prop) (ρ : List Addr) (H : Hp) (a : Option V) : Option W → Prop
  | none => True
  | some u => u.noO = true ∧ ∃ v, a = some v ∧ Sh K w B G ρ H v u
abbrev Sl (K : PySem.W.Frag) (w : World) (B G : Addr → Prop) (ρ : List Addr) (H : Hp) : L2.St → Ev → Prop := Paired (So K w B G ρ H)
variable {B G G' G'' G0 : Addr → Prop} {ρ ρ' ρ'' ρ0 : List Addr} {H H' H'' H0 : Hp} {c c' : Cs} {σ : L2.St} {e e' : Ev} {v vx vy : V} {u x y : W}
theorem Ext.refl : Ext G ρ H G ρ H := ⟨Kp.refl, fun _ h => h, ⟨[], by simp, by simp⟩, fun _ h => h, fun _ h => .inl h⟩
theorem Ext.was (h : Ext G ρ H G' ρ' H') {b : Addr} (n : H' b = none) : H b = none := Classical.byContradiction fun z => h.tr b z n
theorem Ext.trans (h : Ext G ρ H G' ρ' H') (g : Ext G' ρ' H' G'' ρ'' H'') : Ext G ρ H G'' ρ'' H'' := by
  obtain ⟨ys, rfl, hy⟩ := h.pre
  obtain ⟨zs, rfl, hz⟩ := g.pre
  refine ⟨fun b o e n => ?_, fun b n => g.tr b (h.tr b n), ⟨ys ++ zs, by simp, fun y m => ?_⟩, fun p q => g.gr p (h.gr p q), fun p q => ?_⟩
  · refine g.kp b o (h.kp b o e n) fun z => ?_
    rcases List.mem_append.mp z with z | z
    · exact n z
    · rw [hy b z] at e; cases e
  · rcases List.mem_append.mp m with m | m
    · exact hy y m
    · exact h.was (hz y m)
  · rcases g.nw p q with q | q
    · exact h.nw p q
    · exact .inr (h.was q)
theorem Ext.keep (X : Hx B G ρ c H) (h : Ext G ρ H G' ρ' H') : ∀ b o, G b → H b = some o → H' b = some o := fun b o g e => h.kp b o e fun z => X.av b z g
theorem Ext.dq (X : Hx B G ρ c H) (h : Ext G ρ H G' ρ' H') {d : PyData} (q : Dq G H v d) : Dq G' H' v d := Dq.mono (h.keep X) h.gr d v q
theorem Ext.dql (X : Hx B G ρ c H) (h : Ext G ρ H G' ρ' H') {vs : List V} {ds : List PyData} (q : DqL G H vs ds) : DqL G' H' vs ds := DqL.mono (h.keep X) h.gr ds vs q
theorem Ext.nin (h : Ext G ρ H G' ρ' H') {p : Addr} {o : HO} (e : H p = some o) (n : p ∉ ρ) : p ∉ ρ' := by
  obtain ⟨ys, rfl, hy⟩ := h.pre
  intro z
  rcases List.mem_append.mp z with z | z
  · exact n z
  · rw [hy p z] at e; cases e
theorem Ext.stay (X : Hx B G ρ c H) (h : Ext G ρ H G' ρ' H') : Stay B G ρ H G' ρ' H' :=
  ⟨h.keep X, fun b o g e => h.kp b o e fun z => X.avb b z g, h.gr, let ⟨ys, e, _⟩ := h.pre; ⟨ys, e⟩⟩
theorem Stay.refl : Stay B G ρ H G ρ H := ⟨fun _ _ _ h => h, fun _ _ _ h => h, fun _ h => h, [], by simp⟩
theorem Stay.trans (h : Stay B G ρ H G' ρ' H') (g : Stay B G' ρ' H' G'' ρ'' H'') : Stay B G ρ H G'' ρ'' H'' := by
  obtain ⟨ys, rfl⟩ := h.pre
  obtain ⟨zs, rfl⟩ := g.pre
  exact ⟨fun b o q e => g.kg b o (h.gr b q) (h.kg b o q e), fun b o q e => g.kb b o q (h.kb b o q e), fun p q => g.gr p (h.gr p q), ys ++ zs, by simp⟩
theorem Stay.dq (h : Stay B G ρ H G' ρ' H') {d : PyData} (q : Dq G H v d) : Dq G' H' v d := Dq.mono h.kg h.gr d v q
theorem Stay.dql (h : Stay B G ρ H G' ρ' H') {vs : List V} {ds : List PyData} (q : DqL G H vs ds) : DqL G' H' vs ds := DqL.mono h.kg h.gr ds vs q
theorem Stay.sh (h : Stay B G ρ H G' ρ' H') (q : Sh K w B G ρ H v u) (nn : u.noO = true) : Sh K w B G' ρ' H' v u := by
  cases q with
  | d q => exact .d (h.dq q)
  | o _ _ _ _ _ => cases nn
  | od _ _ _ _ _ => cases nn
  | b e r n => exact .b (h.kb _ _ n e) (h.dql r) n
  | s q =>
    rcases q with ⟨q | ⟨o, q⟩, n⟩ | q
    · exact .s (.inl ⟨.inl (h.kb _ _ n q), n⟩)
    · exact .s (.inl ⟨.inr ⟨o, h.kb _ _ n q⟩, n⟩)
    · exact .s (.inr q)
  | c e =>
    obtain ⟨ys, rfl⟩ := h.pre
    refine .c ?_
    rw [List.getElem?_append_left (List.getElem?_eq_some_iff.mp e).1]
    exact e
  | ty => exact .ty
  | tt e n => exact .tt (h.kg _ _ n e) (h.gr _ n)
  | set e n => exact .set (h.kg _ _ n e) (h.gr _ n)
  | x => exact .x
  | dm e r n => exact .dm (h.kg _ _ n e) (Paired.mono (fun _ _ q => ⟨q.1, h.dq q.2⟩) r) (h.gr _ n)
  | lc e n r =>
    obtain ⟨ys, rfl⟩ := h.pre
    exact .lc (h.kg _ _ n e) (h.gr _ n) (r.mono fun k _ q e => by rw [List.getElem?_append_left (List.getElem?_eq_some_iff.mp e).1]; exact e)
theorem Stay.so (h : Stay B G ρ H G' ρ' H') {a : Option V} {z : Option W} (q : So K w B G ρ H a z) : So K w B G' ρ' H' a z := by
  cases z with
  | none => trivial
  | some u =>
    obtain ⟨n, v, e, q⟩ := q
    exact ⟨n, v, e, h.sh q n⟩
theorem Stay.sl (h : Stay B G ρ H G' ρ' H') (q : Sl K w B G ρ H σ e) : Sl K w B G' ρ' H' σ e := Paired.mono (fun _ _ r => h.so r) q
theorem Ext.sh (X : Hx B G ρ c H) (h : Ext G ρ H G' ρ' H') (q : Sh K w B G ρ H v u) : Sh K w B G' ρ' H' v u := by
  by_cases nn : u.noO = true
  · exact (h.stay X).sh q nn
  · cases q with
    | o e r g b n => exact .o (h.kp _ _ e n) (h.dql X r) (fun z => (h.nw _ z).elim g fun z => by rw [e] at z; cases z) b (h.nin e n)
    | od e r g b n => exact .od (h.kp _ _ e n) (Paired.mono (fun _ _ q => ⟨q.1, h.dq X q.2⟩) r) (fun z => (h.nw _ z).elim g fun z => by rw [e] at z; cases z) b (h.nin e n)
    | _ => exact absurd rfl nn
theorem Ext.fr (h : Ext G ρ H G' ρ' H') (q : Fr H' v u) : Fr H v u := by
  cases u with
  | o xs =>
    obtain ⟨p, e, n⟩ := q
    exact ⟨p, e, h.was n⟩
  | od xs =>
    obtain ⟨p, e, n⟩ := q
    exact ⟨p, e, h.was n⟩
  | _ => trivial
theorem Ext.sl (X : Hx B G ρ c H) (h : Ext G ρ H G' ρ' H') (q : Sl K w B G ρ H σ e) : Sl K w B G' ρ' H' σ e := (h.stay X).sl q
theorem paired_get {α β : Type} {F : α → β → Prop} : ∀ {xs : List α} {ys : List β} {i : Nat} {y : β}, Paired F xs ys → ys[i]? = some y → ∃ x, xs[i]? = some x ∧ F x y
  | _, _, _, _, .nil, e => by simp at e
  | _, _, 0, _, .cons r _, e => by simp at e; subst e; exact ⟨_, rfl, r⟩
  | _, _, i + 1, y, .cons _ t, e => by
    obtain ⟨x, h1, h2⟩ := paired_get (i := i) (y := y) t (by simpa using e)
    exact ⟨x, by simpa using h1, h2⟩
theorem paired_set {α β : Type} {F : α → β → Prop} {a : α} {b : β} (r : F a b) : ∀ {xs : List α} {ys : List β} (i : Nat), Paired F xs ys → Paired F (xs.set i a) (ys.set i b)
  | _, _, _, .nil => .nil
  | _, _, 0, .cons _ t => .cons r t
  | _, _, i + 1, .cons q t => .cons q (paired_set r i t)
theorem paired_app {α β : Type} {F : α → β → Prop} : ∀ {xs us : List α} {ys zs : List β}, Paired F xs ys → Paired F us zs → Paired F (xs ++ us) (ys ++ zs)
  | _, _, _, _, .nil, s => s
  | _, _, _, _, .cons r t, s => .cons r (paired_app t s)
theorem FvOk.mv {x : FV} (h : FvOk G H v x) (k : ∀ b o, G b → H b = some o → H' b = some o) (m : ∀ b, G b → G' b) : FvOk G' H' v x := by
  cases h with
  | d h => exact .d (Dq.mono k m _ _ h)
  | a => exact .a
theorem CellOk.trk {p : Addr} {x : Cell} (h : CellOk G H p x) : H p ≠ none := by
  cases h with
  | l h _ => rw [h]; simp
  | m h _ => rw [h]; simp
  | la h _ => rw [h]; simp
  | fz h _ => rw [h]; simp
  | fx h _ => rw [h]; simp
  | ob h _ => rw [h]; simp
  | mc h => rw [h]; simp
theorem CellOk.mv {p : Addr} {x : Cell} (h : CellOk G H p x) (e : H' p = H p) (k : ∀ b o, G b → H b = some o → H' b = some o) (m : ∀ b, G b → G' b) : CellOk G' H' p x := by
  cases h with
  | l h r => exact .l (e.trans h) (DqL.mono k m _ _ r)
  | m h r => exact .m (e.trans h) (Paired.mono (fun a b q => ⟨q.1, Dq.mono k m _ _ q.2⟩) r)
  | la h r => exact .la (e.trans h) (DqL.mono k m _ _ r)
  | fz h r => exact .fz (e.trans h) (Paired.mono (fun a b q => ⟨q.1, Dq.mono k m _ _ q.2⟩) r)
  | fx h r => exact .fx (e.trans h) (Paired.mono (fun a b q => ⟨q.1, Dq.mono k m _ _ q.2⟩) r)
  | ob h r => exact .ob (e.trans h) (Paired.mono (fun a b q => ⟨q.1, q.2.mv k m⟩) r)
  | mc h => exact .mc (e.trans h)
theorem cells_trk {ps : List Addr} {c : Cs} (q : Paired (CellOk G H) ps c) : ∀ p ∈ ps, H p ≠ none := by
  induction q with
  | nil => intro p h; cases h
  | cons r _ ih =>
    intro p h
    rcases List.mem_cons.mp h with e | h
    · rw [e]; exact r.trk
    · exact ih p h
theorem Hx.trk (X : Hx B G ρ c H) {p : Addr} (h : p ∈ ρ) : H p ≠ none := cells_trk X.cells p h
theorem Hx.len (X : Hx B G ρ c H) : ρ.length = c.length := Paired.length X.cells
/-- nothing that was changed -/
theorem Hx.pure (X : Hx B G ρ c H) (k : Kp [] H H') (gr : ∀ p, G p → G' p) (nw : ∀ p, G' p → G p ∨ (H p = none ∨ p ∉ ρ)) (live : ∀ p, G' p → H' p ≠ none) : Hx B G' ρ c H' := by
  refine ⟨X.nd, fun p hp g => ?_, X.avb, live, fun p b => ?_, ?_⟩
  · rcases nw p g with g | g | g
    · exact X.av p hp g
    · exact X.trk hp g
    · exact g hp
  · cases h : H p with
    | none => exact absurd h (X.liveb p b)
    | some o => rw [k.get0 h]; simp
  · refine Paired.mono (fun p x r => ?_) X.cells
    have e : H' p = H p := by
      cases h : H p with
      | none => exact absurd h r.trk
      | some o => exact k.get0 h
    exact r.mv e (fun b o _ e => k.get0 e) gr
/-- a new object -/
theorem Hx.new (X : Hx B G ρ c H) {p : Addr} {o : HO} (n : H p = none) : Hx B G ρ c (upd H p o) :=
  X.pure (Kp.refl.new n) (fun _ h => h) (fun _ h => .inl h) fun q g => by
    have := X.live q g
    rw [upd_ne (fun z => by rw [z] at this; exact this n)]
    exact this
theorem Ext.new {p : Addr} {o : HO} (n : H p = none) : Ext G ρ H G ρ (upd H p o) :=
  ⟨(Kp.refl.new n), fun b h => by
    by_cases e : b = p
    · rw [e, upd_same]; simp
    · rw [upd_ne e]; exact h, ⟨[], by simp, by simp⟩, fun _ h => h, fun _ h => .inl h⟩
/-- data now -/
def Gp (G : Addr → Prop) (p : Addr) : Addr → Prop := fun q => G q ∨ q = p
theorem Hx.data (X : Hx B G ρ c H) {p : Addr} (t : H p ≠ none) (n : p ∉ ρ) : Hx B (Gp G p) ρ c H :=
  X.pure Kp.refl (fun _ h => .inl h) (fun q h => h.elim .inl fun e => .inr (.inr (by rw [e]; exact n))) fun q g => g.elim (X.live q) fun e => by rw [e]; exact t
theorem Ext.data (h : Ext G0 ρ0 H0 G ρ H) {p : Addr} (n : H0 p = none) : Ext G0 ρ0 H0 (Gp G p) ρ H :=
  ⟨h.kp, h.tr, h.pre, fun q g => .inl (h.gr q g), fun q g => g.elim (h.nw q) fun e => .inr (by rw [e]; exact n)⟩
/-- a cell now -/
theorem Hx.cell (X : Hx B G ρ c H) {p : Addr} {x : Cell} (h : CellOk G H p x) (n : p ∉ ρ) (g : ¬ G p) (b : ¬ B p) : Hx B G (ρ ++ [p]) (c ++ [x]) H :=
  ⟨by
    rw [List.nodup_append]
    refine ⟨X.nd, by simp, fun a ha b hb z => ?_⟩
    rw [List.mem_singleton.mp hb] at z
    exact n (z ▸ ha), fun q hq => by
    rcases List.mem_append.mp hq with h | h
    · exact X.av q h
    · rw [List.mem_singleton.mp h]; exact g, fun q hq => by
    rcases List.mem_append.mp hq with h | h
    · exact X.avb q h
    · rw [List.mem_singleton.mp h]; exact b, X.live, X.liveb, paired_app X.cells (.cons h .nil)⟩
theorem Ext.cell (h : Ext G0 ρ0 H0 G ρ H) {p : Addr} (n : H0 p = none) : Ext G0 ρ0 H0 G (ρ ++ [p]) H := by
  obtain ⟨ys, rfl, hy⟩ := h.pre
  refine ⟨h.kp, h.tr, ⟨ys ++ [p], by simp, fun y m => ?_⟩, h.gr, h.nw⟩
  rcases List.mem_append.mp m with m | m
  · exact hy y m
  · rw [List.mem_singleton.mp m]; exact n
/-- a cell changed -/
theorem cells_off {p : Addr} {o : HO} (hG : ∀ q, G q → q ≠ p) {ps : List Addr} {c : Cs} (q : Paired (CellOk G H) ps c) (n : p ∉ ps) : Paired (CellOk G (upd H p o)) ps c := by
  induction q with
  | nil => exact .nil
  | cons r _ ih =>
    simp only [List.mem_cons, not_or] at n
    exact .cons (r.mv (upd_ne (Ne.symm n.1)) (fun b o g e => by rw [upd_ne (hG b g)]; exact e) (fun _ h => h)) (ih n.2)
theorem cells_set {p : Addr} {o : HO} {x : Cell} (hG : ∀ q, G q → q ≠ p) (h : CellOk G (upd H p o) p x) : ∀ {ps : List Addr} {c : Cs} {k : Nat}, ps.Nodup → Paired (CellOk G H) ps c → ps[k]? = some p → Paired (CellOk G (upd H p o)) ps (c.set k x) := by
  intro ps c k nd q ek
  induction q generalizing k with
  | nil => simp at ek
  | @cons a b l1 l2 r t ih =>
    have nd2 := List.nodup_cons.mp nd
    cases k with
    | zero =>
      have e1 : a = p := by simpa using ek
      subst e1
      exact .cons h (cells_off hG t nd2.1)
    | succ k =>
      have ek2 : l1[k]? = some p := by simpa using ek
      have n1 : a ≠ p := fun z => nd2.1 (z ▸ List.mem_of_getElem? ek2)
      exact .cons (r.mv (upd_ne n1) (fun b o g e => by rw [upd_ne (hG b g)]; exact e) (fun _ h => h)) (ih nd2.2 ek2)
theorem Hx.mut (X : Hx B G ρ c H) {k : Nat} {p : Addr} {o : HO} {x : Cell} (e : ρ[k]? = some p) (h : CellOk G (upd H p o) p x) : Hx B G ρ (c.set k x) (upd H p o) := by
  have hp : p ∈ ρ := List.mem_of_getElem? e
  have hG : ∀ q, G q → q ≠ p := fun q g z => X.av p hp (z ▸ g)
  refine ⟨X.nd, X.av, X.avb, fun q g => ?_, fun q g => ?_, cells_set hG h X.nd X.cells e⟩
  · rw [upd_ne (hG q g)]
    exact X.live q g
  · rw [upd_ne fun z => X.avb p hp (by rw [← z]; exact g)]
    exact X.liveb q g
theorem Ext.mut (h : Ext G0 ρ0 H0 G ρ H) {p : Addr} {o : HO} (hp : p ∈ ρ) : Ext G0 ρ0 H0 G ρ (upd H p o) := by
  refine h.trans ⟨Kp.refl.mutS hp, fun b t => ?_, ⟨[], by simp, by simp⟩, fun _ h => h, fun _ h => .inl h⟩
  by_cases z : b = p
  · rw [z, upd_same]; simp
  · rw [upd_ne z]; exact t
inductive Lv (c : Cs) : W → List PyData → Prop
  | d {xs : List PyData} : Lv c (.d (.list xs)) xs
  | o {xs : List PyData} : Lv c (.o xs) xs
  | b {xs : List PyData} : Lv c (.b xs) xs
  | s {xs : List PyData} : Lv c (.s xs) xs
  | c {k : Nat} {xs : List PyData} (h : c[k]? = some (.l xs)) : Lv c (.c k) xs
  | ca {k : Nat} {a : Addr} {xs : List PyData} (h : c[k]? = some (.la a xs)) : Lv c (.c k) xs
theorem dqL_int : ∀ {ns : List Int}, DqL G H (ns.map V.int) (ns.map PyData.int)
  | [] => .nil
  | n :: ns => .cons (.int n) dqL_int
/-- all but the script stands there as a list -/
inductive Lx (c : Cs) : W → List PyData → Prop
  | d {xs : List PyData} : Lx c (.d (.list xs)) xs
  | o {xs : List PyData} : Lx c (.o xs) xs
  | b {xs : List PyData} : Lx c (.b xs) xs
  | c {k : Nat} {xs : List PyData} (h : c[k]? = some (.l xs)) : Lx c (.c k) xs
  | ca {k : Nat} {a : Addr} {xs : List PyData} (h : c[k]? = some (.la a xs)) : Lx c (.c k) xs
theorem Lx.at (X : Hx B G ρ c H) (q : Sh K w B G ρ H v u) {xs : List PyData} (l : Lx c u xs) : ∃ a vs, v = .ref a ∧ H a = some (.lst vs) ∧ DqL G H vs xs := by
  cases l with
  | d =>
    cases q with
    | d q =>
      cases q with
      | lst n h r => exact ⟨_, _, rfl, h, r⟩
  | o => cases q with | o h r _ _ _ => exact ⟨_, _, rfl, h, r⟩
  | b => cases q with | b h r _ => exact ⟨_, _, rfl, h, r⟩
  | c e =>
    cases q with
    | c h =>
      obtain ⟨p, hp, r⟩ := paired_get X.cells e
      rw [h] at hp
      cases hp
      cases r with
      | l h r => exact ⟨_, _, rfl, h, r⟩
  | ca e =>
    cases q with
    | c h =>
      obtain ⟨p, hp, r⟩ := paired_get X.cells e
      rw [h] at hp
      cases hp
      cases r with
      | la h r => exact ⟨_, _, rfl, h, r⟩
theorem Lv.seq (X : Hx B G ρ c H) (q : Sh K w B G ρ H v u) {xs : List PyData} (l : Lv c u xs) : ∃ a vs, v = .ref a ∧ SqL K H a vs ∧ DqL G H vs xs := by
  have key : ∀ {xs}, Lx c u xs → ∃ a vs, v = .ref a ∧ SqL K H a vs ∧ DqL G H vs xs := fun l => by
    obtain ⟨a, vs, e, h, r⟩ := l.at X q
    exact ⟨a, vs, e, SqL.of h, r⟩
  cases l with
  | d => exact key .d
  | o => exact key .o
  | b => exact key .b
  | c h => exact key (.c h)
  | ca h => exact key (.ca h)
  | s =>
    cases q with
    | s q =>
      refine ⟨_, _, rfl, ?_, dqL_int⟩
      rcases q with ⟨q, _⟩ | q
      · exact .inl q
      · exact .inr q
inductive Dv (c : Cs) : W → PyData → Prop
  | d {x : PyData} : Dv c (.d x) x
  | l {u : W} {xs : List PyData} (h : Lv c u xs) : Dv c u (.list xs)
theorem Dv.dp (X : Hx B G ρ c H) (q : Sh K w B G ρ H v u) {x : PyData} (l : Dv c u x) (z : x.hasDict = false) : Dp K H v x := by
  cases l with
  | d => cases q with | d q => exact Dq.dp _ _ z q
  | l h =>
    obtain ⟨a, vs, rfl, h1, h2⟩ := h.seq X q
    exact .lst h1 (DqL.dp _ _ (by simpa only [PyData.hasDict] using z) h2)
inductive Dx (c : Cs) : W → PyData → Prop
  | d {x : PyData} : Dx c (.d x) x
  | l {u : W} {xs : List PyData} (h : Lx c u xs) : Dx c u (.list xs)
theorem Dx.dq (X : Hx B G ρ c H) (q : Sh K w B G ρ H v u) {x : PyData} (l : Dx c u x) : DqT (fun _ => True) H v x := by
  cases l with
  | d => cases q with | d q => exact .of (q.imp fun _ _ => trivial)
  | l h =>
    obtain ⟨a, vs, rfl, h1, h2⟩ := h.at X q
    exact .of (.lst trivial h1 (h2.imp fun _ _ => trivial))
/-- the wish T of a heap, by the wish Q of values and cells, from the base on -/
def Kt (K : PySem.W.Frag) (w : World) (B G : Addr → Prop) (ρ : List Addr) (H : Hp) (Q : W → Cs → Prop) (T : VK) : Prop :=
  ∀ u v c' G' ρ' H', Ext G ρ H G' ρ' H' → Hx B G' ρ' c' H' → Sh K w B G' ρ' H' v u → Fr H v u → Q u c' → T v H'
def VE (K : PySem.W.Frag) (w : World) (t : TE) (e : Ev) (c : Cs) (Q : W → Cs → Prop) : Prop :=
  ∀ B G ρ σ H T, Hx B G ρ c H → Sl K w B G ρ H σ e → Kt K w B G ρ H Q T → t σ H T
/-- new lists stand apart -/
def Dj : List V → List W → Prop
  | v :: vs, u :: us => (u.noO = false → ∀ q ∈ vs.zip us, q.2.noO = false → q.1 ≠ v) ∧ Dj vs us
  | _, _ => True
def KtA (K : PySem.W.Frag) (w : World) (B G : Addr → Prop) (ρ : List Addr) (H : Hp) (Q : List W → Cs → Prop) (T : List V → Hp → Prop) : Prop :=
  ∀ us vs c' G' ρ' H', Ext G ρ H G' ρ' H' → Hx B G' ρ' c' H' → Paired (Sh K w B G' ρ' H') vs us → Paired (Fr H) vs us → Dj vs us → Q us c' → T vs H'
def VA (K : PySem.W.Frag) (w : World) (t : TA) (e : Ev) (c : Cs) (Q : List W → Cs → Prop) : Prop :=
  ∀ B G ρ σ H T, Hx B G ρ c H → Sl K w B G ρ H σ e → KtA K w B G ρ H Q T → t σ H T
def KtB {α : Type} (B G : Addr → Prop) (ρ : List Addr) (H : Hp) (Q : α → Cs → Prop) (T : α → Hp → Prop) : Prop :=
  ∀ b c' G' ρ' H', Ext G ρ H G' ρ' H' → Hx B G' ρ' c' H' → Q b c' → T b H'
def VT (K : PySem.W.Frag) (w : World) (t : TT) (e : Ev) (c : Cs) (Q : Bool → Cs → Prop) : Prop :=
  ∀ B G ρ σ H T, Hx B G ρ c H → Sl K w B G ρ H σ e → KtB B G ρ H Q T → t σ H T
def VO (K : PySem.W.Frag) (w : World) (t : TO) (e : Ev) (c : Cs) (Q : Option Int → Cs → Prop) : Prop :=
  ∀ B G ρ σ H T, Hx B G ρ c H → Sl K w B G ρ H σ e → KtB B G ρ H Q T → t σ H T
/-- readings of values that have come since the base -/
def V2 (K : PySem.W.Frag) (w : World) (r : R2) (x y : W) (c : Cs) (Q : W → Cs → Prop) : Prop :=
  ∀ B G0 ρ0 H0 G ρ H vx vy T, Ext G0 ρ0 H0 G ρ H → Hx B G ρ c H → Sh K w B G ρ H vx x → Sh K w B G ρ H vy y → Fr H0 vx x → Fr H0 vy y → Kt K w B G0 ρ0 H0 Q T → r vx vy H T
def VU (K : PySem.W.Frag) (w : World) (r : V → Hp → VK → Prop) (x : W) (c : Cs) (Q : W → Cs → Prop) : Prop :=
  ∀ B G0 ρ0 H0 G ρ H vx T, Ext G0 ρ0 H0 G ρ H → Hx B G ρ c H → Sh K w B G ρ H vx x → Fr H0 vx x → Kt K w B G0 ρ0 H0 Q T → r vx H T
def VX (K : PySem.W.Frag) (w : World) (r : List V → Hp → VK → Prop) (us : List W) (c : Cs) (Q : W → Cs → Prop) : Prop :=
  ∀ B G0 ρ0 H0 G ρ H vs T, Ext G0 ρ0 H0 G ρ H → Hx B G ρ c H → Paired (Sh K w B G ρ H) vs us → Paired (Fr H0) vs us → Kt K w B G0 ρ0 H0 Q T → r vs H T
def VM (K : PySem.W.Frag) (w : World) (r : V → List V → Hp → VK → Prop) (x : W) (us : List W) (c : Cs) (Q : W → Cs → Prop) : Prop :=
  ∀ B G0 ρ0 H0 G ρ H vx vs T, Ext G0 ρ0 H0 G ρ H → Hx B G ρ c H → Sh K w B G ρ H vx x → Fr H0 vx x → Paired (Sh K w B G ρ H) vs us → Paired (Fr H0) vs us → Kt K w B G0 ρ0 H0 Q T → r vx vs H T
section
variable {Q : W → Cs → Prop} {T : VK}
theorem Kt.d (k : Kt K w B G0 ρ0 H0 Q T) (E : Ext G0 ρ0 H0 G ρ H) (X : Hx B G ρ c H) {z : PyData} (h : Dq G H v z) (q : Q (.d z) c) : T v H := k _ _ _ _ _ _ E X (.d h) trivial q
/-- a new list -/
theorem Kt.l (k : Kt K w B G0 ρ0 H0 Q T) (E : Ext G0 ρ0 H0 G ρ H) (X : Hx B G ρ c H) {p : Addr} {vs : List V} {xs : List PyData} (n : H p = none) (r : DqL G H vs xs) (q : Q (.o xs) c) : T (.ref p) (upd H p (.lst vs)) := by
  refine k _ _ _ _ _ _ (E.trans (.new n)) (X.new n) (.o upd_same (r.new n) (fun g => X.live p g n) (fun g => X.liveb p g n) fun z => X.trk z n) ⟨p, rfl, E.was n⟩ q
/-- a new tuple -/
theorem Kt.t (k : Kt K w B G0 ρ0 H0 Q T) (E : Ext G0 ρ0 H0 G ρ H) (X : Hx B G ρ c H) {p : Addr} {vs : List V} {xs : List PyData} (n : H p = none) (r : DqL G H vs xs) (q : Q (.d (.tuple xs)) c) : T (.ref p) (upd H p (.tup vs)) := by
  have X1 : Hx B (Gp G p) ρ c (upd H p (.tup vs)) := (X.new n).data (by rw [upd_same]; simp) (fun z => X.trk z n)
  refine k _ _ _ _ _ _ ((E.trans (.new n)).data (E.was n)) X1 (.d (.tup (.inr rfl) upd_same ?_)) trivial q
  exact (r.new n).imp fun b h => .inl h
end
end
end Gd
namespace Gd
open PySem PySem.Spec PyProof.Rows L2
section
variable {K : PySem.W.Frag} {w : World} {B : Addr → Prop} {G G' G'' G0 : Addr → Prop} {ρ ρ' ρ'' ρ0 : List Addr} {H H' H'' H0 : Hp} {c c' : Cs} {σ : L2.St} {e e' : Ev} {v vx vy : V} {u x y : W}
variable {Q : W → Cs → Prop} {QA : List W → Cs → Prop} {QB : Bool → Cs → Prop} {QO : Option Int → Cs → Prop} {ta tb tc te : TE} {t : TA} {tt tt1 : TT} {i : Nat}
theorem fr_noO (h : u.noO = true) : Fr H v u := by
  cases u <;> first
    | trivial
    | cases h
theorem v_var (h : e[i]? = some (some u)) (q : Q u c) : VE K w (tVar i) e c Q := by
  intro B G ρ σ H T X S k
  obtain ⟨a, h1, h2⟩ := paired_get S h
  obtain ⟨n, v, rfl, h3⟩ := h2
  exact ⟨v, h1, k _ _ _ _ _ _ .refl X h3 (fr_noO n) q⟩
theorem v_c {z : PyData} (h : ∀ G H, Dq G H v z) (q : Q (.d z) c) : VE K w (tC v) e c Q := fun B G ρ σ H T X S k => k.d .refl X (h G H) q
theorem v_non (q : Q (.d .none) c) : VE K w (tC .non) e c Q := v_c (fun _ _ => .non) q
theorem v_int {i : Int} (q : Q (.d (.int i)) c) : VE K w (tC (.int i)) e c Q := v_c (fun _ _ => .int i) q
theorem v_str {i : Str} (q : Q (.d (.str i)) c) : VE K w (tC (.str i)) e c Q := v_c (fun _ _ => .str i) q
theorem v_bl {i : Bool} (q : Q (.d (.bool i)) c) : VE K w (tC (.bl i)) e c Q := v_c (fun _ _ => .bl i) q
theorem v_ty {i : String} (q : Q (.ty i) c) : VE K w (tC (.ty i)) e c Q := fun B G ρ σ H T X S k => k _ _ _ _ _ _ .refl X .ty trivial q
theorem v_op {r : R2} (h : VE K w ta e c fun x c1 => VE K w tb e c1 fun y c2 => V2 K w r x y c2 Q) : VE K w (tOp r ta tb) e c Q := by
  intro B G ρ σ H T X S k
  refine h B G ρ σ H _ X S fun x vx c1 G1 ρ1 H1 E1 X1 s1 f1 q1 => ?_
  refine q1 B G1 ρ1 σ H1 _ X1 (E1.sl X S) fun y vy c2 G2 ρ2 H2 E2 X2 s2 f2 q2 => ?_
  exact q2 B G ρ H G2 ρ2 H2 vx vy T (E1.trans E2) X2 (E2.sh X1 s1) s2 f1 (E1.fr f2) k
theorem v_un {r : V → Hp → VK → Prop} (h : VE K w ta e c fun x c1 => VU K w r x c1 Q) : VE K w (tUn r ta) e c Q := by
  intro B G ρ σ H T X S k
  refine h B G ρ σ H _ X S fun x vx c1 G1 ρ1 H1 E1 X1 s1 f1 q1 => ?_
  exact q1 B G ρ H G1 ρ1 H1 vx T E1 X1 s1 f1 k
theorem v_nil (q : QA [] c) : VA K w tNil e c QA := fun B G ρ σ H T X S k => k _ _ _ _ _ _ .refl X .nil .nil trivial q
theorem dj_of {vs : List V} {us : List W} (s : Sh K w B G ρ H v u) (f : Paired (Fr H) vs us) (n : u.noO = false) : ∀ q ∈ vs.zip us, q.2.noO = false → q.1 ≠ v := by
  have hp : ∃ p, v = .ref p ∧ H p ≠ none := by
    cases s with
    | o h _ _ _ _ => exact ⟨_, rfl, by rw [h]; simp⟩
    | od h _ _ _ _ => exact ⟨_, rfl, by rw [h]; simp⟩
    | _ => cases n
  obtain ⟨p, rfl, hp⟩ := hp
  induction f with
  | nil => intro q hq; cases hq
  | @cons a b l1 l2 r _ ih =>
    intro q hq z e
    rw [List.zip_cons_cons, List.mem_cons] at hq
    rcases hq with rfl | hq
    · cases b with
      | o xs =>
        obtain ⟨p', e1, e2⟩ := r
        simp only at e
        rw [e1] at e
        cases e
        exact hp e2
      | od xs =>
        obtain ⟨p', e1, e2⟩ := r
        simp only at e
        rw [e1] at e
        cases e
        exact hp e2
      | _ => cases z
    · exact ih q hq z e
theorem v_cons (h : VE K w ta e c fun x c1 => VA K w t e c1 fun us c2 => QA (x :: us) c2) : VA K w (tCons ta t) e c QA := by
  intro B G ρ σ H T X S k
  refine h B G ρ σ H _ X S fun x vx c1 G1 ρ1 H1 E1 X1 s1 f1 q1 => ?_
  refine q1 B G1 ρ1 σ H1 _ X1 (E1.sl X S) fun us vs c2 G2 ρ2 H2 E2 X2 s2 f2 d2 q2 => ?_
  exact k _ _ _ _ _ _ (E1.trans E2) X2 (.cons (E2.sh X1 s1) s2) (.cons f1 (Paired.mono (fun _ _ q => E1.fr q) f2)) ⟨fun z => dj_of s1 f2 z, d2⟩ q2
theorem v_cb {r : List V → Hp → VK → Prop} (h : VA K w t e c fun us c1 => VX K w r us c1 Q) : VE K w (tCB r t) e c Q := by
  intro B G ρ σ H T X S k
  refine h B G ρ σ H _ X S fun us vs c1 G1 ρ1 H1 E1 X1 s1 f1 d1 q1 => ?_
  exact q1 B G ρ H G1 ρ1 H1 vs T E1 X1 s1 f1 k
def dat1 : W → Option PyData
  | .d x => some x
  | .o xs => some (.list xs)
  | _ => none
def dats : List W → Option (List PyData)
  | [] => some []
  | u :: us => (dat1 u).bind fun d => (dats us).map fun ds => d :: ds
/-- data, or a new list that can be data -/
def Dd (H0 : Hp) (G : Addr → Prop) (ρ : List Addr) (H : Hp) (v : V) (x : PyData) : Prop := Dq G H v x ∨ ∃ p vs xs, v = .ref p ∧ x = .list xs ∧ H p = some (.lst vs) ∧ DqL G H vs xs ∧ p ∉ ρ ∧ H0 p = none
theorem Dd.of (q : Sh K w B G ρ H v u) (f : Fr H0 v u) {x : PyData} (h : dat1 u = some x) : Dd H0 G ρ H v x := by
  cases q with
  | d q => cases h; exact .inl q
  | o a r g b n =>
    cases h
    obtain ⟨p, e, z⟩ := f
    cases e
    exact .inr ⟨_, _, _, rfl, rfl, a, r, n, z⟩
  | _ => cases h
theorem Dd.gr {x' : PyData} (h : Dd H0 G ρ H v x') (k : ∀ p, G p → G' p) : Dd H0 G' ρ H v x' := by
  rcases h with h | ⟨p, vs, xs, h1, h2, h3, h4, h5⟩
  · exact .inl (h.imp k)
  · exact .inr ⟨p, vs, xs, h1, h2, h3, h4.imp k, h5⟩
theorem Dd.data {x' : PyData} (h : Dd H0 G ρ H v x') (E : Ext G0 ρ0 H0 G ρ H) (X : Hx B G ρ c H) : ∃ G', Ext G0 ρ0 H0 G' ρ H ∧ Hx B G' ρ c H ∧ (∀ p, G p → G' p) ∧ Dq G' H v x' := by
  rcases h with h | ⟨p, vs, xs, rfl, rfl, h3, h4, h5, h6⟩
  · exact ⟨G, E, X, fun _ h => h, h⟩
  · exact ⟨Gp G p, E.data h6, X.data (by rw [h3]; simp) h5, fun _ h => .inl h, .lst (.inr rfl) h3 (h4.imp fun _ h => .inl h)⟩
theorem dats_data : ∀ {vs : List V} {xs : List PyData} {G : Addr → Prop}, Paired (Dd H0 G ρ H) vs xs → Ext G0 ρ0 H0 G ρ H → Hx B G ρ c H → ∃ G', Ext G0 ρ0 H0 G' ρ H ∧ Hx B G' ρ c H ∧ (∀ p, G p → G' p) ∧ DqL G' H vs xs
  | _, _, G, .nil, E, X => ⟨G, E, X, fun _ h => h, .nil⟩
  | _, _, G, .cons r t, E, X => by
    obtain ⟨G1, E1, X1, g1, q1⟩ := r.data E X
    obtain ⟨G2, E2, X2, g2, q2⟩ := dats_data (Paired.mono (fun _ _ q => Dd.gr q g1) t) E1 X1
    exact ⟨G2, E2, X2, fun p h => g2 p (g1 p h), .cons (q1.imp g2) q2⟩
theorem dats_of : ∀ {vs : List V} {us : List W} {xs : List PyData}, Paired (Sh K w B G ρ H) vs us → Paired (Fr H0) vs us → dats us = some xs → Paired (Dd H0 G ρ H) vs xs
  | _, _, xs, .nil, _, h => by cases h; exact .nil
  | _, _, xs, .cons q t, .cons f g, h => by
    unfold dats at h
    obtain ⟨d, h1, h2⟩ := Option.bind_eq_some_iff.mp h
    obtain ⟨ds, h3, rfl⟩ := Option.map_eq_some_iff.mp h2
    exact .cons (Dd.of q f h1) (dats_of t g h3)
theorem v_lst (h : VA K w t e c fun us c1 => ∃ xs, dats us = some xs ∧ us.length ≤ sizeLine ∧ Q (.o xs) c1) : VE K w (tLst t) e c Q := by
  intro B G ρ σ H T X S k
  refine h B G ρ σ H _ X S fun us vs c1 G1 ρ1 H1 E1 X1 s1 f1 d1 ⟨xs, h1, h2, q1⟩ => ?_
  obtain ⟨G2, E2, X2, _, q2⟩ := dats_data (dats_of s1 f1 h1) E1 X1
  refine ⟨by rw [Paired.length s1]; exact h2, fun p n => k.l E2 X2 n q2 q1⟩
theorem v_tup (h : VA K w t e c fun us c1 => ∃ xs, dats us = some xs ∧ us.length ≤ sizeLine ∧ Q (.d (.tuple xs)) c1) : VE K w (tTup t) e c Q := by
  intro B G ρ σ H T X S k
  refine h B G ρ σ H _ X S fun us vs c1 G1 ρ1 H1 E1 X1 s1 f1 d1 ⟨xs, h1, h2, q1⟩ => ?_
  obtain ⟨G2, E2, X2, _, q2⟩ := dats_data (dats_of s1 f1 h1) E1 X1
  refine ⟨by rw [Paired.length s1]; exact h2, fun p n => k.t E2 X2 n q2 q1⟩
theorem v_tupT (h : VA K w t e c fun us c1 => ∃ a b, us = [.ty a, .ty b] ∧ Q (.tt a b) c1) : VE K w (tTup t) e c Q := by
  intro B G ρ σ H T X S k
  refine h B G ρ σ H _ X S fun us vs c1 G1 ρ1 H1 E1 X1 s1 f1 d1 ⟨a, b, h1, q1⟩ => ?_
  subst h1
  cases s1 with
  | cons s1 s2 => cases s2 with
    | cons s2 s3 =>
      cases s3
      cases s1
      cases s2
      refine ⟨by show 2 ≤ sizeLine; rw [sizeLine_eq]; decide, fun p n => ?_⟩
      exact k _ _ _ _ _ _ ((E1.trans (.new n)).data (E1.was n)) ((X1.new n).data (by rw [upd_same]; simp) fun z => X1.trk z n) (.tt upd_same (.inr rfl)) trivial q1
theorem v_ife (h : VT K w tt e c fun b c1 => if b = true then VE K w ta e c1 Q else VE K w tb e c1 Q) : VE K w (tIf tt ta tb) e c Q := by
  intro B G ρ σ H T X S k
  refine h B G ρ σ H _ X S fun b c1 G1 ρ1 H1 E1 X1 q1 => ?_
  have k1 : Kt K w B G1 ρ1 H1 Q T := fun u v c' G' ρ' H' E' X' s f q => k u v c' G' ρ' H' (E1.trans E') X' s (E1.fr f) q
  cases b with
  | true => rw [if_pos rfl] at q1; rw [if_pos rfl]; exact q1 _ _ _ _ _ _ X1 (E1.sl X S) k1
  | false => rw [if_neg (by decide)] at q1; rw [if_neg (by decide)]; exact q1 _ _ _ _ _ _ X1 (E1.sl X S) k1
inductive Tv (c : Cs) : W → Bool → Prop
  | non : Tv c (.d .none) false
  | bl (b : Bool) : Tv c (.d (.bool b)) b
  | int (i : Int) : Tv c (.d (.int i)) (i != 0)
  | str (s : Str) (h : s.length ≤ sizeLine) : Tv c (.d (.str s)) ((s.length : Int) != 0)
  | lst {u : W} {xs : List PyData} (h : Lv c u xs) : Tv c u (!xs.isEmpty)
  | tup (xs : List PyData) : Tv c (.d (.tuple xs)) (!xs.isEmpty)
  | dct {k : Nat} {kvs : List (Key × PyData)} (h : c[k]? = some (.m kvs)) : Tv c (.c k) (!kvs.isEmpty)
theorem dql_len {vs : List V} : ∀ {xs : List PyData}, DqL G H vs xs → vs.length = xs.length := by
  intro xs h
  induction vs generalizing xs with
  | nil => cases h; rfl
  | cons v vs ih =>
    cases h with
    | cons _ r => simp [ih r]
theorem isE {α β : Type} {xs : List α} {ys : List β} (h : xs.length = ys.length) : xs.isEmpty = ys.isEmpty := by
  cases xs <;> cases ys <;> simp at h <;> rfl
theorem Tv.tru {b : Bool} (h : Tv c u b) (X : Hx B G ρ c H) (q : Sh K w B G ρ H v u) : TruV K v H b := by
  cases h with
  | non => cases q with | d q => cases q; rfl
  | bl b => cases q with | d q => cases q; rfl
  | int i => cases q with | d q => cases q; rfl
  | str s h => cases q with | d q => cases q; exact ⟨h, rfl⟩
  | lst l =>
    obtain ⟨a, vs, rfl, h1, h2⟩ := l.seq X q
    exact .inl ⟨vs, h1, by rw [isE (dql_len h2)]⟩
  | tup xs =>
    cases q with
    | d q =>
      cases q with
      | tup n h r => exact .inr (.inl ⟨_, SqT.of h, by rw [isE (dql_len r)]⟩)
  | dct e =>
    cases q with
    | c h =>
      obtain ⟨p, hp, r⟩ := paired_get X.cells e
      rw [h] at hp
      cases hp
      cases r with
      | m h r => exact .inr (.inr ⟨_, h, by rw [isE (Paired.length r)]⟩)
theorem v_andT (h : VE K w ta e c fun x c1 => ∃ k, Tv c1 x k ∧ if k = true then VE K w tb e c1 Q else Q x c1) : VE K w (tAndT K ta tb) e c Q := by
  intro B G ρ σ H T X S k
  refine h B G ρ σ H _ X S fun x vx c1 G1 ρ1 H1 E1 X1 s1 f1 ⟨b, hb, q1⟩ => ⟨b, hb.tru X1 s1, ?_⟩
  cases b with
  | true =>
    rw [if_pos rfl] at q1; rw [if_pos rfl]
    exact q1 _ _ _ _ _ _ X1 (E1.sl X S) fun u v c' G' ρ' H' E' X' s f q => k u v c' G' ρ' H' (E1.trans E') X' s (E1.fr f) q
  | false => rw [if_neg (by decide)] at q1; rw [if_neg (by decide)]; exact k _ _ _ _ _ _ E1 X1 s1 f1 q1
theorem v_notT (h : VE K w ta e c fun x c1 => ∃ k, Tv c1 x k ∧ Q (.d (.bool (!k))) c1) : VE K w (tNotT K ta) e c Q := by
  intro B G ρ σ H T X S k
  refine h B G ρ σ H _ X S fun x vx c1 G1 ρ1 H1 E1 X1 s1 f1 ⟨b, hb, q1⟩ => ⟨b, hb.tru X1 s1, ?_⟩
  exact k.d E1 X1 (.bl _) q1
theorem v_tru (h : VE K w te e c fun x c1 => ∃ k, Tv c1 x k ∧ QB k c1) : VT K w (uTru K te) e c QB := by
  intro B G ρ σ H T X S k
  refine h B G ρ σ H _ X S fun x vx c1 G1 ρ1 H1 E1 X1 s1 f1 ⟨b, hb, q1⟩ => ⟨b, hb.tru X1 s1, ?_⟩
  exact k _ _ _ _ _ E1 X1 q1
theorem v_test (h : VE K w te e c fun x c1 => ∃ k, x = .d (.bool k) ∧ QB k c1) : VT K w (tTest te) e c QB := by
  intro B G ρ σ H T X S k
  refine h B G ρ σ H _ X S fun x vx c1 G1 ρ1 H1 E1 X1 s1 f1 ⟨b, hb, q1⟩ => ?_
  subst hb
  cases s1 with
  | d q =>
    cases q
    exact ⟨b, rfl, k _ _ _ _ _ E1 X1 q1⟩
theorem KtB.re {α : Type} {QB : α → Cs → Prop} {T : α → Hp → Prop} (k : KtB B G ρ H QB T) (E : Ext G ρ H G' ρ' H') : KtB B G' ρ' H' QB T := fun b c' G1 ρ1 H1 E1 X1 q => k b c' G1 ρ1 H1 (E.trans E1) X1 q
theorem Kt.re {T : VK} (k : Kt K w B G ρ H Q T) (E : Ext G ρ H G' ρ' H') : Kt K w B G' ρ' H' Q T := fun u v c' G1 ρ1 H1 E1 X1 s f q => k u v c' G1 ρ1 H1 (E.trans E1) X1 s (E.fr f) q
theorem v_tand (h : VT K w tt e c fun b c1 => if b = true then VT K w tt1 e c1 QB else QB false c1) : VT K w (tAnd tt tt1) e c QB := by
  intro B G ρ σ H T X S k
  refine h B G ρ σ H _ X S fun b c1 G1 ρ1 H1 E1 X1 q1 => ?_
  cases b with
  | true => rw [if_pos rfl] at q1; rw [if_pos rfl]; exact q1 _ _ _ _ _ _ X1 (E1.sl X S) (k.re E1)
  | false => rw [if_neg (by decide)] at q1; rw [if_neg (by decide)]; exact k _ _ _ _ _ E1 X1 q1
theorem v_tor (h : VT K w tt e c fun b c1 => if b = true then QB true c1 else VT K w tt1 e c1 QB) : VT K w (tOr tt tt1) e c QB := by
  intro B G ρ σ H T X S k
  refine h B G ρ σ H _ X S fun b c1 G1 ρ1 H1 E1 X1 q1 => ?_
  cases b with
  | false => rw [if_neg (by decide)] at q1; rw [if_neg (by decide)]; exact q1 _ _ _ _ _ _ X1 (E1.sl X S) (k.re E1)
  | true => rw [if_pos rfl] at q1; rw [if_pos rfl]; exact k _ _ _ _ _ E1 X1 q1
theorem v_tnot (h : VT K w tt e c fun b c1 => QB (!b) c1) : VT K w (tNot tt) e c QB := by
  intro B G ρ σ H T X S k
  exact h B G ρ σ H _ X S fun b c1 G1 ρ1 H1 E1 X1 q1 => k _ _ _ _ _ E1 X1 q1
theorem v_yes (q : QB true c) : VT K w tYes e c QB := fun B G ρ σ H T X S k => k _ _ _ _ _ .refl X q
end
end Gd
namespace Gd
open PySem PySem.Spec PyProof.Rows L2
section
variable {K : PySem.W.Frag} {w : World} {B : Addr → Prop} {G G' G'' G0 : Addr → Prop} {ρ ρ' ρ'' ρ0 : List Addr} {H H' H'' H0 : Hp} {c c' : Cs} {σ : L2.St} {e e' : Ev} {v vx vy : V} {u x y : W}
variable {Q : W → Cs → Prop}
theorem dq_int {i : Int} (h : Dq G H v (.int i)) : v = .int i := by cases h; rfl
theorem dq_str {i : Str} (h : Dq G H v (.str i)) : v = .str i := by cases h; rfl
theorem dq_bl {i : Bool} (h : Dq G H v (.bool i)) : v = .bl i := by cases h; rfl
theorem dql_strs : ∀ {vs : List V} {ws : List Str}, DqL G H vs (ws.map .str) → vs = ws.map V.str
  | _, [], h => by cases h; rfl
  | _, w :: ws, h => by
    cases h with
    | cons h r => rw [dq_str h, dql_strs r]; rfl
theorem dql_bls : ∀ {vs : List V} {ws : List Bool}, DqL G H vs (ws.map .bool) → vs = ws.map V.bl
  | _, [], h => by cases h; rfl
  | _, w :: ws, h => by
    cases h with
    | cons h r => rw [dq_bl h, dql_bls r]; rfl
theorem dql_at {vs : List V} {xs : List PyData} {i : Int} {d : PyData} (h : DqL G H vs xs) (e : atI xs i = some d) : ∃ v, atI vs i = some v ∧ Dq G H v d := by
  unfold atI at *
  obtain ⟨j, h1, h2⟩ := Option.bind_eq_some_iff.mp e
  have hl := dql_len h
  have : ∃ v, vs[j]? = some v := by
    have := (List.getElem?_eq_some_iff.mp h2).1
    exact ⟨vs[j], List.getElem?_eq_getElem (by omega)⟩
  obtain ⟨v, hv⟩ := this
  obtain ⟨d', e1, e2⟩ := DqL.get h hv
  rw [h2] at e1
  cases e1
  exact ⟨v, by rw [hl, h1]; exact hv, e2⟩
theorem DqL.take {vs : List V} : ∀ {xs : List PyData} (n : Nat), DqL G H vs xs → DqL G H (vs.take n) (xs.take n) := by
  intro xs n h
  induction vs generalizing xs n with
  | nil => cases h; simp; exact .nil
  | cons v vs ih =>
    cases h with
    | cons h r =>
      cases n with
      | zero => exact .nil
      | succ n => exact .cons h (ih n r)
theorem DqL.drop {vs : List V} : ∀ {xs : List PyData} (n : Nat), DqL G H vs xs → DqL G H (vs.drop n) (xs.drop n) := by
  intro xs n h
  induction vs generalizing xs n with
  | nil => cases h; simp; exact .nil
  | cons v vs ih =>
    cases h with
    | cons h r =>
      cases n with
      | zero => exact .cons h r
      | succ n => exact ih n r
theorem DqL.rev {vs : List V} {xs : List PyData} (h : DqL G H vs xs) : DqL G H vs.reverse xs.reverse := by
  induction vs generalizing xs with
  | nil => cases h; exact .nil
  | cons v vs ih =>
    cases h with
    | cons h r =>
      rw [List.reverse_cons, List.reverse_cons]
      exact (ih r).app (.cons h .nil)
theorem DqL.set {vs : List V} {xs : List PyData} {v : V} {d : PyData} (j : Nat) (h : DqL G H vs xs) (q : Dq G H v d) : DqL G H (vs.set j v) (xs.set j d) := by
  induction vs generalizing xs j with
  | nil => cases h; exact .nil
  | cons v vs ih =>
    cases h with
    | cons h r =>
      cases j with
      | zero => exact .cons q r
      | succ j => exact .cons h (ih j r)
/-- the cut of a list of data -/
def cutD (xs : List PyData) (lo hi : Option Int) : List PyData := (xs.drop (HT.sIx xs.length 0 lo)).take (HT.sIx xs.length xs.length hi - HT.sIx xs.length 0 lo)
theorem DqL.cut {vs : List V} {xs : List PyData} (h : DqL G H vs xs) (lo hi : Option Int) : DqL G H (cutV vs lo hi) (cutD xs lo hi) := by
  unfold cutV cutD
  rw [dql_len h]
  exact (h.drop _).take _
theorem w_ss {r : R2} {a b z : PyData} {va vb vz : V} (ha : ∀ {G H v}, Dq G H v a → v = va) (hb : ∀ {G H v}, Dq G H v b → v = vb) (hz : ∀ {G H}, Dq G H vz z)
    (hr : ∀ {H : Hp} {T : VK}, T vz H → r va vb H T) (q : Q (.d z) c) : V2 K w r (.d a) (.d b) c Q := by
  intro B G0 ρ0 H0 G ρ H vx vy T E X sx sy fx fy k
  cases sx with
  | d q1 =>
    cases sy with
    | d q2 =>
      rw [ha q1, hb q2]
      exact hr (k.d E X hz q)
theorem w_us {r : V → Hp → VK → Prop} {a z : PyData} {va vz : V} (ha : ∀ {G H v}, Dq G H v a → v = va) (hz : ∀ {G H}, Dq G H vz z)
    (hr : ∀ {H : Hp} {T : VK}, T vz H → r va H T) (q : Q (.d z) c) : VU K w r (.d a) c Q := by
  intro B G0 ρ0 H0 G ρ H vx T E X sx fx k
  cases sx with
  | d q1 =>
    rw [ha q1]
    exact hr (k.d E X hz q)
theorem w_addI {a b : Int} (q : Q (.d (.int (a + b))) c) : V2 K w (uAdd K) (.d (.int a)) (.d (.int b)) c Q := w_ss dq_int dq_int (.int _) (fun q => u_addI q) q
theorem w_addS {a b : Str} (h : a.length + b.length ≤ sizeLine) (q : Q (.d (.str (a ++ b))) c) : V2 K w (uAdd K) (.d (.str a)) (.d (.str b)) c Q := w_ss dq_str dq_str (.str _) (fun q => u_addS h q) q
theorem w_addL {xs ys : List PyData} (h1 : Lv c x xs) (h2 : Lv c y ys) (h3 : xs.length + ys.length ≤ sizeLine) (q : Q (.o (xs ++ ys)) c) : V2 K w (uAdd K) x y c Q := by
  intro B G0 ρ0 H0 G ρ H vx vy T E X sx sy fx fy k
  obtain ⟨a, vs, rfl, a1, a2⟩ := h1.seq X sx
  obtain ⟨b, us, rfl, b1, b2⟩ := h2.seq X sy
  exact u_addL a1 b1 (by rw [dql_len a2, dql_len b2]; exact h3) fun p n => k.l E X n (a2.app b2) q
theorem w_subI {a b : Int} (q : Q (.d (.int (a - b))) c) : V2 K w uSub (.d (.int a)) (.d (.int b)) c Q := w_ss dq_int dq_int (.int _) (fun q => u_subI q) q
theorem w_mulI {a b : Int} (h : CMul a b ∨ CMulW a b) (q : Q (.d (.int (a * b))) c) : V2 K w uMul (.d (.int a)) (.d (.int b)) c Q := w_ss dq_int dq_int (.int _) (fun q => u_mulI h q) q
theorem w_mulS {a : Str} {b : Int} (h1 : b < 16777217) (h2 : -16777217 < b) (h3 : a.length * b.toNat ≤ sizeLine) (q : Q (.d (.str (strRep a b.toNat))) c) : V2 K w uMul (.d (.str a)) (.d (.int b)) c Q := w_ss dq_str dq_int (.str _) (fun q => u_mulS h1 h2 h3 q) q
theorem w_mod {a b : Int} (h : 0 < b) (q : Q (.d (.int (a % b))) c) : V2 K w uMod (.d (.int a)) (.d (.int b)) c Q := w_ss dq_int dq_int (.int _) (fun q => u_mod h q) q
theorem w_div {a b : Int} (h : 0 < b) (h2 : b.natAbs.log2 < 9000) (q : Q (.d (.int (a / b))) c) : V2 K w uDiv (.d (.int a)) (.d (.int b)) c Q := w_ss dq_int dq_int (.int _) (fun q => u_div h h2 q) q
theorem w_pow {a b : Int} (h : CPowW a b) (q : Q (.d (.int (a ^ b.toNat))) c) : V2 K w uPow (.d (.int a)) (.d (.int b)) c Q := w_ss dq_int dq_int (.int _) (fun q => u_pow h q) q
theorem w_neg {a : Int} (q : Q (.d (.int (-a))) c) : VU K w (rU fun i => .int (-i)) (.d (.int a)) c Q := w_us dq_int (.int _) (fun q => rd_rU q) q
theorem w_eqI {a b : Int} (q : Q (.d (.bool (decide (a = b)))) c) : V2 K w (uEq K) (.d (.int a)) (.d (.int b)) c Q := w_ss dq_int dq_int (.bl _) (fun q => u_eqI q) q
theorem w_neI {a b : Int} (q : Q (.d (.bool (!decide (a = b)))) c) : V2 K w (uNe K) (.d (.int a)) (.d (.int b)) c Q := w_ss dq_int dq_int (.bl _) (fun q => u_neI q) q
theorem w_eqS {a b : Str} (q : Q (.d (.bool (decide (a = b)))) c) : V2 K w (uEq K) (.d (.str a)) (.d (.str b)) c Q := w_ss dq_str dq_str (.bl _) (fun q => u_eqS q) q
theorem w_neS {a b : Str} (q : Q (.d (.bool (!decide (a = b)))) c) : V2 K w (uNe K) (.d (.str a)) (.d (.str b)) c Q := w_ss dq_str dq_str (.bl _) (fun q => u_neS q) q
theorem w_eqB {a b : Bool} (q : Q (.d (.bool (a == b))) c) : V2 K w (uEq K) (.d (.bool a)) (.d (.bool b)) c Q := w_ss dq_bl dq_bl (.bl _) (fun q => u_eqB q) q
theorem w_neB {a b : Bool} (q : Q (.d (.bool (!(a == b)))) c) : V2 K w (uNe K) (.d (.bool a)) (.d (.bool b)) c Q := w_ss dq_bl dq_bl (.bl _) (fun q => u_neB q) q
theorem w_ltI {a b : Int} (q : Q (.d (.bool (decide (a < b)))) c) : V2 K w uLt (.d (.int a)) (.d (.int b)) c Q := w_ss dq_int dq_int (.bl _) (fun q => u_ltI q) q
theorem w_gtI {a b : Int} (q : Q (.d (.bool (decide (b < a)))) c) : V2 K w uGt (.d (.int a)) (.d (.int b)) c Q := w_ss dq_int dq_int (.bl _) (fun q => u_gtI q) q
theorem w_leI {a b : Int} (q : Q (.d (.bool (decide (a ≤ b)))) c) : V2 K w uLe (.d (.int a)) (.d (.int b)) c Q := w_ss dq_int dq_int (.bl _) (fun q => u_leI q) q
theorem w_ltS {a b : Str} (q : Q (.d (.bool (decide (tl a < tl b)))) c) : V2 K w uLt (.d (.str a)) (.d (.str b)) c Q := w_ss dq_str dq_str (.bl _) (fun q => u_ltS q) q
theorem w_gtS {a b : Str} (q : Q (.d (.bool (decide (tl b < tl a)))) c) : V2 K w uGt (.d (.str a)) (.d (.str b)) c Q := w_ss dq_str dq_str (.bl _) (fun q => u_gtS q) q
theorem w_inS {a : Nat} {z : Str} (q : Q (.d (.bool (decide (a ∈ tl z)))) c) : V2 K w (uIn K) (.d (.str ⟨#[a]⟩)) (.d (.str z)) c Q := w_ss dq_str dq_str (.bl _) (fun q => u_inS q) q
theorem w_isN {z : PyData} (q : Q (.d (.bool (match z with | .none => true | _ => false))) c) : V2 K w (fun x y H Q => y = .non ∧ Q (.bl (decide (x = .non))) H) (.d z) (.d .none) c Q := by
  intro B G0 ρ0 H0 G ρ H vx vy T E X sx sy fx fy k
  cases sx with
  | d q1 =>
    cases sy with
    | d q2 =>
      cases q2
      refine ⟨rfl, ?_⟩
      cases q1 <;> exact k.d E X (.bl _) q
theorem w_eqD {a b : PyData} (h1 : Dv c x a) (h2 : Dv c y b) (s1 : SeqAt.shaped a = true) (s2 : SeqAt.shaped b = true) (q : Q (.d (.bool (PyData.eqv a b))) c) : V2 K w (uEq K) x y c Q := by
  intro B G0 ρ0 H0 G ρ H vx vy T E X sx sy fx fy k
  exact u_eqD (h1.dp X sx (noDict_shaped _ s1)) (h2.dp X sy (noDict_shaped _ s2)) s1 s2 (k.d E X (.bl _) q)
theorem w_neD {a b : PyData} (h1 : Dv c x a) (h2 : Dv c y b) (s1 : SeqAt.shaped a = true) (s2 : SeqAt.shaped b = true) (q : Q (.d (.bool (!PyData.eqv a b))) c) : V2 K w (uNe K) x y c Q := by
  intro B G0 ρ0 H0 G ρ H vx vy T E X sx sy fx fy k
  exact u_neD (h1.dp X sx (noDict_shaped _ s1)) (h2.dp X sy (noDict_shaped _ s2)) s1 s2 (k.d E X (.bl _) q)
theorem w_ixL {xs : List PyData} {i : Int} {d : PyData} (h : Lv c x xs) (a : atI xs i = some d) (q : Q (.d d) c) : V2 K w (rIx K) x (.d (.int i)) c Q := by
  intro B G0 ρ0 H0 G ρ H vx vy T E X sx sy fx fy k
  obtain ⟨p, vs, rfl, a1, a2⟩ := h.seq X sx
  cases sy with
  | d q2 =>
    cases q2
    obtain ⟨v, h1, h2⟩ := dql_at a2 a
    exact u_ixL a1 h1 (k.d E X h2 q)
theorem w_ixS {z : Str} {i : Int} {a : Nat} (h : z.length ≤ sizeLine) (g : atI (tl z) i = some a) (q : Q (.d (.str ⟨#[a]⟩)) c) : V2 K w (rIx K) (.d (.str z)) (.d (.int i)) c Q := w_ss dq_str dq_int (.str _) (fun q => u_ixS h g q) q
theorem v1 {vs : List V} {F : V → W → Prop} (h : Paired F vs [u]) : ∃ v, vs = [v] ∧ F v u := by
  cases h with
  | cons r t => cases t; exact ⟨_, rfl, r⟩
theorem v2 {vs : List V} {F : V → W → Prop} (h : Paired F vs [x, y]) : ∃ v v', vs = [v, v'] ∧ F v x ∧ F v' y := by
  cases h with
  | cons r t =>
    obtain ⟨v', rfl, r'⟩ := v1 t
    exact ⟨_, _, rfl, r, r'⟩
theorem w_x1 {r : List V → Hp → VK → Prop} {a z : PyData} {va vz : V} (ha : ∀ {G H v}, Dq G H v a → v = va) (hz : ∀ {G H}, Dq G H vz z)
    (hr : ∀ {H : Hp} {T : VK}, T vz H → r [va] H T) (q : Q (.d z) c) : VX K w r [.d a] c Q := by
  intro B G0 ρ0 H0 G ρ H vs T E X sx fx k
  obtain ⟨v, rfl, s⟩ := v1 sx
  cases s with
  | d q1 => rw [ha q1]; exact hr (k.d E X hz q)
theorem w_x2 {r : List V → Hp → VK → Prop} {a b z : PyData} {va vb vz : V} (ha : ∀ {G H v}, Dq G H v a → v = va) (hb : ∀ {G H v}, Dq G H v b → v = vb) (hz : ∀ {G H}, Dq G H vz z)
    (hr : ∀ {H : Hp} {T : VK}, T vz H → r [va, vb] H T) (q : Q (.d z) c) : VX K w r [.d a, .d b] c Q := by
  intro B G0 ρ0 H0 G ρ H vs T E X sx fx k
  obtain ⟨v, v', rfl, s, s'⟩ := v2 sx
  cases s with
  | d q1 => cases s' with
    | d q2 => rw [ha q1, hb q2]; exact hr (k.d E X hz q)
theorem w_lenS {s : Str} (h : s.length ≤ sizeLine) (q : Q (.d (.int (s.length : Int))) c) : VX K w (uLen K) [.d (.str s)] c Q := w_x1 dq_str (.int _) (fun q => u_lenS h q) q
theorem w_lenL {xs : List PyData} (h : Lv c x xs) (q : Q (.d (.int (xs.length : Int))) c) : VX K w (uLen K) [x] c Q := by
  intro B G0 ρ0 H0 G ρ H vs T E X sx fx k
  obtain ⟨v, rfl, s⟩ := v1 sx
  obtain ⟨p, vs, rfl, a1, a2⟩ := h.seq X s
  exact u_lenL a1 (by rw [dql_len a2]; exact k.d E X (.int _) q)
theorem w_lenT {xs : List PyData} (q : Q (.d (.int (xs.length : Int))) c) : VX K w (uLen K) [.d (.tuple xs)] c Q := by
  intro B G0 ρ0 H0 G ρ H vs T E X sx fx k
  obtain ⟨v, rfl, s⟩ := v1 sx
  cases s with
  | d q1 =>
    cases q1 with
    | tup n h r => exact u_lenT (SqT.of h) (by rw [dql_len r]; exact k.d E X (.int _) q)
inductive Tw (c : Cs) : W → String → Prop
  | non : Tw c (.d .none) "NoneType"
  | bl (b : Bool) : Tw c (.d (.bool b)) "bool"
  | int (i : Int) : Tw c (.d (.int i)) "int"
  | str (s : Str) : Tw c (.d (.str s)) "str"
  | tup (xs : List PyData) : Tw c (.d (.tuple xs)) "tuple"
  | lst {u : W} {xs : List PyData} (h : Lv c u xs) : Tw c u "list"
  | dct (xs : List (PyData × PyData)) : Tw c (.d (.dict xs)) "dict"
theorem Tw.n {t : String} (h : Tw c u t) (X : Hx B G ρ c H) (q : Sh K w B G ρ H v u) : TyN K H v t := by
  cases h with
  | non => cases q with | d q => cases q; exact .non
  | bl b => cases q with | d q => cases q; exact .bl _
  | int i => cases q with | d q => cases q; exact .int _
  | str s => cases q with | d q => cases q; exact .str _
  | tup xs =>
    cases q with
    | d q => cases q with
      | tup n h r => exact .tup h
  | lst l =>
    obtain ⟨p, vs, rfl, a1, a2⟩ := l.seq X q
    exact .lst a1
  | dct xs =>
    cases q with
    | d q => cases q with
      | d0 n h => exact .dct h
theorem w_isi {t C : String} (h : Tw c x t) (q : Q (.d (.bool (isi t C))) c) (hC : C ∈ ["bool", "int", "str", "list", "tuple", "dict"] := by decide) : VX K w (uIsi K) [x, .ty C] c Q := by
  intro B G0 ρ0 H0 G ρ H vs T E X sx fx k
  obtain ⟨v, v', rfl, s, s'⟩ := v2 sx
  cases s'
  exact u_isi (h.n X s) (k.d E X (.bl _) q) hC
theorem w_isi2 {t A B : String} (h : Tw c x t) (q : Q (.d (.bool (isi t A || isi t B))) c) (hA : A ∈ ["bool", "int", "str", "list", "tuple", "dict"] := by decide) (hB : B ∈ ["bool", "int", "str", "list", "tuple", "dict"] := by decide) : VX K w (uIsi2 K) [x, .tt A B] c Q := by
  intro B G0 ρ0 H0 G ρ H vs T E X sx fx k
  obtain ⟨v, v', rfl, s, s'⟩ := v2 sx
  cases s' with
  | tt h2 n => exact u_isi2 (h.n X s) h2 (k.d E X (.bl _) q) hA hB
theorem w_typ {t : String} (h : Tw c x t) (q : Q (.ty t) c) : VX K w (uTyp K) [x] c Q := by
  intro B G0 ρ0 H0 G ρ H vs T E X sx fx k
  obtain ⟨v, rfl, s⟩ := v1 sx
  exact rd_typ (h.n X s) (k _ _ _ _ _ _ E X .ty trivial q)
theorem w_eqT {s t : String} (q : Q (.d (.bool (decide (s = t)))) c) (hs : s ∈ ["NoneType", "bool", "int", "str", "list", "tuple", "dict"] := by decide) (ht : t ∈ ["NoneType", "bool", "int", "str", "list", "tuple", "dict"] := by decide) : V2 K w uEqT (.ty s) (.ty t) c Q := by
  intro B G0 ρ0 H0 G ρ H vx vy T E X sx sy fx fy k
  cases sx
  cases sy
  exact ⟨_, _, rfl, rfl, hs, ht, k.d E X (.bl _) q⟩
theorem w_set {ws : List Str} (h : Lv c x (ws.map .str)) (hz : ws.length < 4000) (q : Q (.set (dedT ws)) c) : VX K w (uSet K w) [x] c Q := by
  intro B G0 ρ0 H0 G ρ H vs T E X sx fx k
  obtain ⟨v, rfl, s⟩ := v1 sx
  obtain ⟨p, vs, rfl, a1, a2⟩ := h.seq X s
  rw [dql_strs a2] at a1
  exact u_set a1 hz fun p n => k _ _ _ _ _ _ ((E.trans (.new n)).data (E.was n)) ((X.new n).data (by rw [upd_same]; simp) fun z => X.trk z n) (.set upd_same (.inr rfl)) trivial q
theorem w_sortedS {ks : List Str} (q : ∀ ys : List Str, ys.Perm ks → sortedS ys = true → Q (.o (ys.map .str)) c) : VX K w (uSorted K w) [.set ks] c Q := by
  intro B G0 ρ0 H0 G ρ H vs T E X sx fx k
  obtain ⟨v, rfl, s⟩ := v1 sx
  cases s with
  | set h n => exact u_sortedS h fun p ys n pm so => k.l E X n (dqL_strs ys) (q ys pm so)
theorem w_all {bs : List Bool} (h : Lv c x (bs.map .bool)) (q : Q (.d (.bool (bs.all id))) c) : VX K w (rAll K) [x] c Q := by
  intro B G0 ρ0 H0 G ρ H vs T E X sx fx k
  obtain ⟨v, rfl, s⟩ := v1 sx
  obtain ⟨p, vs, rfl, a1, a2⟩ := h.seq X s
  rw [dql_bls a2] at a1
  exact ⟨p, bs, rfl, a1, k.d E X (.bl _) q⟩
def VSl (K : PySem.W.Frag) (w : World) (r : V → Option Int → Option Int → Hp → VK → Prop) (x : W) (lo hi : Option Int) (c : Cs) (Q : W → Cs → Prop) : Prop := VU K w (fun v H T => r v lo hi H T) x c Q
theorem w_slS {z : Str} {lo hi : Option Int} (h : z.length ≤ sizeLine) (q : Q (.d (.str (cutS z lo hi))) c) : VSl K w (uSl K) (.d (.str z)) lo hi c Q := w_us dq_str (.str _) (fun q => u_slS h q) q
theorem w_slL {xs : List PyData} {lo hi : Option Int} (h : Lv c x xs) (q : Q (.o (cutD xs lo hi)) c) : VSl K w (uSl K) x lo hi c Q := by
  intro B G0 ρ0 H0 G ρ H vx T E X s fx k
  obtain ⟨p, vs, rfl, a1, a2⟩ := h.seq X s
  exact u_slL a1 fun p n => k.l E X n (a2.cut lo hi) q
variable {ta tb tc te : TE} {t : TA} {tt tt1 : TT} {i : Nat} {QO : Option Int → Cs → Prop} {to th : TO}
theorem v_sl {r : V → Option Int → Option Int → Hp → VK → Prop} (h : VE K w te e c fun x c1 => VO K w to e c1 fun lo c2 => VO K w th e c2 fun hi c3 => VSl K w r x lo hi c3 Q) : VE K w (tSl r te to th) e c Q := by
  intro B G ρ σ H T X S k
  refine h B G ρ σ H _ X S fun x vx c1 G1 ρ1 H1 E1 X1 s1 f1 q1 => ?_
  refine q1 B G1 ρ1 σ H1 _ X1 (E1.sl X S) fun lo c2 G2 ρ2 H2 E2 X2 q2 => ?_
  refine q2 B G2 ρ2 σ H2 _ X2 ((E1.trans E2).sl X S) fun hi c3 G3 ρ3 H3 E3 X3 q3 => ?_
  exact q3 B G ρ H G3 ρ3 H3 vx T ((E1.trans E2).trans E3) X3 ((E2.trans E3).sh X1 s1) f1 k
theorem v_part (h : VE K w te e c fun x c1 => ∃ i, x = .d (.int i) ∧ QO (some i) c1) : VO K w (tPart te) e c QO := by
  intro B G ρ σ H T X S k
  refine h B G ρ σ H _ X S fun x vx c1 G1 ρ1 H1 E1 X1 s1 f1 ⟨i, hi, q1⟩ => ?_
  subst hi
  cases s1 with
  | d q => cases q; exact ⟨i, rfl, k _ _ _ _ _ E1 X1 q1⟩
theorem v_nopart (q : QO none c) : VO K w tNoPart e c QO := fun B G ρ σ H T X S k => k _ _ _ _ _ .refl X q
theorem v_revL (h : VE K w te e c fun x c1 => ∃ xs, Lv c1 x xs ∧ Q (.o xs.reverse) c1) : VE K w (tRevL K te) e c Q := by
  intro B G ρ σ H T X S k
  refine h B G ρ σ H _ X S fun x vx c1 G1 ρ1 H1 E1 X1 s1 f1 ⟨xs, hx, q1⟩ => ?_
  obtain ⟨p, vs, rfl, a1, a2⟩ := hx.seq X1 s1
  exact ⟨p, vs, rfl, a1, fun p n => k.l E1 X1 n a2.rev q1⟩
variable {QA : List W → Cs → Prop}
inductive Tyw (c : Cs) : String → W → Prop
  | str (s : Str) : Tyw c "str" (.d (.str s))
  | lst {u : W} {xs : List PyData} (h : Lv c u xs) : Tyw c "list" u
  | dct {k : Nat} {kvs : List (Key × PyData)} (h : c[k]? = some (.m kvs)) : Tyw c "dict" (.c k)
theorem Tyw.ok {t : String} (h : Tyw c t u) (X : Hx B G ρ c H) (q : Sh K w B G ρ H v u) : tyV K t v H := by
  cases h with
  | str s => cases q with | d q => cases q; rfl
  | lst l =>
    obtain ⟨p, vs, rfl, a1, a2⟩ := l.seq X q
    exact .inl ⟨rfl, _, a1⟩
  | dct e =>
    cases q with
    | c h =>
      obtain ⟨p, hp, r⟩ := paired_get X.cells e
      rw [h] at hp
      cases hp
      cases r with
      | m h r => exact .inr (.inr (.inl ⟨rfl, .inl ⟨_, h⟩⟩))
theorem v_bm {S : String} {r : V → List V → Hp → VK → Prop} (h : VE K w te e c fun x c1 => Tyw c1 S x ∧ VA K w t e c1 fun us c2 => VM K w r x us c2 Q) : VE K w (tBM K S r te t) e c Q := by
  intro B G ρ σ H T X S k
  refine h B G ρ σ H _ X S fun x vx c1 G1 ρ1 H1 E1 X1 s1 f1 ⟨t1, q1⟩ => ⟨t1.ok X1 s1, ?_⟩
  refine q1 B G1 ρ1 σ H1 _ X1 (E1.sl X S) fun us vs c2 G2 ρ2 H2 E2 X2 s2 f2 d2 q2 => ?_
  exact q2 B G ρ H G2 ρ2 H2 vx vs T (E1.trans E2) X2 (E2.sh X1 s1) f1 s2 (Paired.mono (fun _ _ q => E1.fr q) f2) k
theorem v_m1 {r : V → List V → Hp → VK → Prop} (h : VE K w ta e c fun x c1 => (∃ a, x = .d (.str a)) ∧ VE K w tb e c1 fun y c2 => VM K w r x [y] c2 Q) : VE K w (tM1 r ta tb) e c Q := by
  intro B G ρ σ H T X S k
  refine h B G ρ σ H _ X S fun x vx c1 G1 ρ1 H1 E1 X1 s1 f1 ⟨⟨a, t1⟩, q1⟩ => ?_
  subst t1
  refine ⟨?_, ?_⟩
  · cases s1 with
    | d q => cases q; exact ⟨_, rfl⟩
  refine q1 B G1 ρ1 σ H1 _ X1 (E1.sl X S) fun y vy c2 G2 ρ2 H2 E2 X2 s2 f2 q2 => ?_
  exact q2 B G ρ H G2 ρ2 H2 vx [vy] T (E1.trans E2) X2 (E2.sh X1 s1) f1 (.cons s2 .nil) (.cons (E1.fr f2) .nil) k
theorem w_m1 {r : V → List V → Hp → VK → Prop} {a b z : PyData} {va vb vz : V} (ha : ∀ {G H v}, Dq G H v a → v = va) (hb : ∀ {G H v}, Dq G H v b → v = vb) (hz : ∀ {G H}, Dq G H vz z)
    (hr : ∀ {H : Hp} {T : VK}, T vz H → r va [vb] H T) (q : Q (.d z) c) : VM K w r (.d a) [.d b] c Q := by
  intro B G0 ρ0 H0 G ρ H vx vs T E X sx fx ss fs k
  obtain ⟨v, rfl, s⟩ := v1 ss
  cases s with
  | d q2 => cases sx with
    | d q1 => rw [ha q1, hb q2]; exact hr (k.d E X hz q)
theorem w_starts {a b : Str} (q : Q (.d (.bool (Txt.startswith a b))) c) : VM K w (fun x xs H Q => ∃ a b, x = .str a ∧ xs = [.str b] ∧ Q (.bl (Txt.startswith a b)) H) (.d (.str a)) [.d (.str b)] c Q := w_m1 dq_str dq_str (.bl _) (fun q => ⟨_, _, rfl, rfl, q⟩) q
theorem w_join {a : Str} {ws : List Str} (h : Lv c x (ws.map .str)) (hz : (ws.map (·.length)).sum + ws.length * a.length ≤ 16777216) (q : Q (.d (.str (Txt.join a ws))) c) : VM K w (rJoin K) (.d (.str a)) [x] c Q := by
  intro B G0 ρ0 H0 G ρ H vx vs T E X sx fx ss fs k
  obtain ⟨v, rfl, s⟩ := v1 ss
  obtain ⟨p, vs, rfl, a1, a2⟩ := h.seq X s
  rw [dql_strs a2] at a1
  cases sx with
  | d q1 => cases q1; exact ⟨a, p, ws, rfl, rfl, .inl a1, hz, k.d E X (.str _) q⟩
theorem cell_at {k : Nat} {xs : List PyData} (X : Hx B G ρ c H) (q : Sh K w B G ρ H v (.c k)) (h : c[k]? = some (.l xs)) : ∃ p vs, v = .ref p ∧ ρ[k]? = some p ∧ H p = some (.lst vs) ∧ DqL G H vs xs := by
  cases q with
  | c hp =>
    obtain ⟨p, hp', r⟩ := paired_get X.cells h
    rw [hp] at hp'
    cases hp'
    cases r with
    | l h r => exact ⟨_, _, rfl, hp, h, r⟩
theorem dql_upd {p : Addr} {o : HO} {vs : List V} {xs : List PyData} (X : Hx B G ρ c H) {k : Nat} (hp : ρ[k]? = some p) (h : DqL G H vs xs) : DqL G (upd H p o) vs xs := h.mut (fun g => X.av p (List.mem_of_getElem? hp) g)
/-- the cell at k made new -/
theorem Kt.mut {T : VK} (k : Kt K w B G0 ρ0 H0 Q T) (E : Ext G0 ρ0 H0 G ρ H) (X : Hx B G ρ c H) {j : Nat} {p : Addr} {vs : List V} {xs : List PyData} (hp : ρ[j]? = some p) (r : DqL G H vs xs) {u : V} {d : PyData} (hu : Dq G H u d) (q : Q (.d d) (c.set j (.l xs))) : T u (upd H p (.lst vs)) := by
  have m := List.mem_of_getElem? hp
  exact k _ _ _ _ _ _ (E.mut m) (X.mut hp (.l upd_same (dql_upd X hp r))) (.d (hu.mut fun g => X.av p m g)) trivial q
theorem w_app {k : Nat} {xs : List PyData} {y : W} {d : PyData} (h : c[k]? = some (.l xs)) (hy : dat1 y = some d) (hz : xs.length < sizeLine) (q : Q (.d .none) (c.set k (.l (xs ++ [d])))) : VM K w rAppend (.c k) [y] c Q := by
  intro B G0 ρ0 H0 G ρ H vx vs T E X sx fx ss fs kt
  obtain ⟨v, rfl, s⟩ := v1 ss
  obtain ⟨v', ev, f⟩ := v1 fs
  cases ev
  obtain ⟨p, us, rfl, hp, hl, r⟩ := cell_at X sx h
  obtain ⟨G1, E1, X1, g1, q1⟩ := (Dd.of s f hy).data E X
  exact u_app hl (by rw [dql_len r]; exact hz) (kt.mut E1 X1 hp ((r.imp g1).app (.cons q1 .nil)) .non q)
theorem w_ext {k : Nat} {xs ys : List PyData} {y : W} (h : c[k]? = some (.l xs)) (hy : Lx c y ys) (hz : xs.length + ys.length ≤ sizeLine) (q : Q (.d .none) (c.set k (.l (xs ++ ys)))) : VM K w rExtend (.c k) [y] c Q := by
  intro B G0 ρ0 H0 G ρ H vx vs T E X sx fx ss fs kt
  obtain ⟨v, rfl, s⟩ := v1 ss
  obtain ⟨p, us, rfl, hp, hl, r⟩ := cell_at X sx h
  obtain ⟨b, vs, rfl, b1, b2⟩ := hy.at X s
  exact ⟨p, b, us, vs, rfl, rfl, hl, b1, by rw [dql_len r, dql_len b2]; exact hz, kt.mut E X hp (r.app b2) .non q⟩
end
end Gd
namespace Gd
open PySem PySem.Spec PyProof.Rows L2
structure DV where
  nx : Ev → Cs → Prop
  rt : W → Cs → Prop
  bk : Ev → Cs → Prop := fun _ _ => False
  ct : Ev → Cs → Prop := fun _ _ => False
  /-- what leaves it as an exception of the class at C with the payload z; the wish of it that the text bears -/
  xx : Addr → Option (Str × PyData) → Ev → Cs → Prop := fun _ _ _ _ => False
  W : WX := fun _ _ _ _ => True
section
variable {K : PySem.W.Frag} {w : World} {B G G' G'' G0 : Addr → Prop} {ρ ρ' ρ'' ρ0 : List Addr} {H H' H'' H0 : Hp} {c c' : Cs} {σ : L2.St} {e e' : Ev} {v vx vy : V} {u x y : W}
variable {Q : W → Cs → Prop} {QA : List W → Cs → Prop} {QB : Bool → Cs → Prop} {QO : Option Int → Cs → Prop} {ta tb tc te to ti : TE} {t : TA} {tt tt1 : TT} {i j k : Nat} {P : Ev → Cs → Prop} {D : DV} {Dh : Ends} {g : TG} {ts us : TS}
def LfN (K : PySem.W.Frag) (w : World) (B G : Addr → Prop) (ρ : List Addr) (H : Hp) (P : Ev → Cs → Prop) (Ph : L2.St → Hp → Prop) : Prop :=
  ∀ e' c' σ' G' ρ' H', Ext G ρ H G' ρ' H' → Hx B G' ρ' c' H' → Sl K w B G' ρ' H' σ' e' → P e' c' → Ph σ' H'
/-- an exception's own dict -/
def Xd (G : Addr → Prop) (H : Hp) : Option Addr → Option (Str × PyData) → Prop
  | none, none => True
  | some dd, some (f, x) => ∃ v, H dd = some (.xd [(f, v)]) ∧ Dq G H v x
  | _, _ => False
def LfX (K : PySem.W.Frag) (w : World) (B G : Addr → Prop) (ρ : List Addr) (H : Hp) (X : Addr → Option (Str × PyData) → Ev → Cs → Prop) (Wh : WX) : Prop :=
  ∀ C d z e' c' σ' G' ρ' H', Ext G ρ H G' ρ' H' → Hx B G' ρ' c' H' → Sl K w B G' ρ' H' σ' e' → Xd G' H' d z → X C z e' c' → Wh (.ref C) d σ' H'
structure Lf (K : PySem.W.Frag) (w : World) (B G : Addr → Prop) (ρ : List Addr) (H : Hp) (D : DV) (Dh : Ends) : Prop where
  nx : LfN K w B G ρ H D.nx Dh.nx
  rt : Kt K w B G ρ H D.rt Dh.rt
  bk : LfN K w B G ρ H D.bk Dh.bk
  ct : LfN K w B G ρ H D.ct Dh.ct
  xx : LfX K w B G ρ H D.xx D.W
theorem LfN.re {Ph : L2.St → Hp → Prop} (h : LfN K w B G ρ H P Ph) (E : Ext G ρ H G' ρ' H') : LfN K w B G' ρ' H' P Ph := fun e' c' σ' G1 ρ1 H1 E1 => h e' c' σ' G1 ρ1 H1 (E.trans E1)
theorem LfX.re {R : Addr → Option (Str × PyData) → Ev → Cs → Prop} {Wh : WX} (h : LfX K w B G ρ H R Wh) (E : Ext G ρ H G' ρ' H') : LfX K w B G' ρ' H' R Wh := fun C d z e' c' σ' G1 ρ1 H1 E1 => h C d z e' c' σ' G1 ρ1 H1 (E.trans E1)
theorem Lf.re (h : Lf K w B G ρ H D Dh) (E : Ext G ρ H G' ρ' H') : Lf K w B G' ρ' H' D Dh := ⟨h.nx.re E, h.rt.re E, h.bk.re E, h.ct.re E, h.xx.re E⟩
def VS (K : PySem.W.Frag) (w : World) (ts : TS) (e : Ev) (c : Cs) (D : DV) : Prop :=
  ∀ B G ρ σ H Dh, Hx B G ρ c H → Sl K w B G ρ H σ e → Lf K w B G ρ H D Dh → ts Dh σ H
def LfG (K : PySem.W.Frag) (w : World) (B G0 : Addr → Prop) (ρ0 : List Addr) (H0 : Hp) (G : Addr → Prop) (ρ : List Addr) (H : Hp) (P : Ev → Cs → Prop) (Ph : L2.St → Hp → Prop) : Prop :=
  ∀ e' c' σ' G' ρ' H', Ext G0 ρ0 H0 G' ρ' H' → Stay B G ρ H G' ρ' H' → Hx B G' ρ' c' H' → Sl K w B G' ρ' H' σ' e' → P e' c' → Ph σ' H'
def VG (K : PySem.W.Frag) (w : World) (g : TG) (u : W) (e : Ev) (c : Cs) (P : Ev → Cs → Prop) : Prop :=
  ∀ B G0 ρ0 H0 G ρ σ H v Ph, Ext G0 ρ0 H0 G ρ H → Hx B G ρ c H → Sl K w B G ρ H σ e → Sh K w B G ρ H v u → Fr H0 v u → LfG K w B G0 ρ0 H0 G ρ H P Ph → g v σ H Ph
def VGs (K : PySem.W.Frag) (w : World) (g : TGs) (xs : List PyData) (e : Ev) (c : Cs) (P : Ev → Cs → Prop) : Prop :=
  ∀ B G0 ρ0 H0 G ρ σ H vs Ph, Ext G0 ρ0 H0 G ρ H → Hx B G ρ c H → Sl K w B G ρ H σ e → DqL G H vs xs → LfG K w B G0 ρ0 H0 G ρ H P Ph → g vs σ H Ph
theorem sl_set (S : Sl K w B G ρ H σ e) (s : Sh K w B G ρ H v u) (n : u.noO = true) (i : Nat) : Sl K w B G ρ H (σ.set i (some v)) (e.set i (some u)) := paired_set ⟨n, v, rfl, s⟩ i S
theorem v_gname (n : u.noO = true) (q : P (e.set i (some u)) c) : VG K w (gName i) u e c P := by
  intro B G0 ρ0 H0 G ρ σ H v Ph E X S s f k
  exact k _ _ _ _ _ _ E .refl X (sl_set S s n i) q
theorem v_gnameD {xs : List PyData} (q : P (e.set i (some (.d (.list xs)))) c) : VG K w (gName i) (.o xs) e c P := by
  intro B G0 ρ0 H0 G ρ σ H v Ph E X S s f k
  cases s with
  | @o p vs _ h r g b n =>
    obtain ⟨p', ep, hp⟩ := f
    cases ep
    have X1 := X.data (by rw [h]; simp) n
    have gr : ∀ q, G q → Gp G p q := fun q h => .inl h
    have st : Stay B G ρ H (Gp G p) ρ H := ⟨fun _ _ _ h => h, fun _ _ _ h => h, gr, [], by simp⟩
    exact k _ _ _ _ _ _ (E.data hp) st X1 (sl_set (st.sl S) (.d (.lst (.inr rfl) h (r.imp gr))) rfl i) q
theorem v_gnameC {xs : List PyData} (q : P (e.set i (some (.c c.length))) (c ++ [.l xs])) : VG K w (gName i) (.o xs) e c P := by
  intro B G0 ρ0 H0 G ρ σ H v Ph E X S s f k
  cases s with
  | @o p vs _ h r g b n =>
    obtain ⟨p', ep, hp⟩ := f
    cases ep
    have X1 := X.cell (.l h r) n g b
    have st : Stay B G ρ H G (ρ ++ [p]) H := ⟨fun _ _ _ h => h, fun _ _ _ h => h, fun _ h => h, [p], rfl⟩
    refine k _ _ _ _ _ _ (E.cell hp) st X1 (sl_set (st.sl S) (.c ?_) rfl i) q
    rw [← X.len]
    simp
theorem v_gtup {n : Nat} {tg : TGs} {xs : List PyData} (hn : xs.length = n) (h : VGs K w tg xs e c P) : VG K w (gTup K n tg) (.d (.tuple xs)) e c P := by
  intro B G0 ρ0 H0 G ρ σ H v Ph E X S s f k
  cases s with
  | d q =>
    cases q with
    | tup n h1 r => exact ⟨_, _, rfl, SqT.of h1, by rw [dql_len r]; exact hn, h B G0 ρ0 H0 G ρ σ H _ Ph E X S r k⟩
theorem v_gcons {tg : TGs} {d : PyData} {xs : List PyData} (h : VG K w g (.d d) e c fun e1 c1 => VGs K w tg xs e1 c1 P) : VGs K w (gCons g tg) (d :: xs) e c P := by
  intro B G0 ρ0 H0 G ρ σ H vs Ph E X S r k
  cases r with
  | cons q r =>
    refine ⟨_, _, rfl, h B G0 ρ0 H0 G ρ σ H _ _ E X S (.d q) trivial fun e1 c1 σ1 G1 ρ1 H1 E1 st1 X1 S1 q1 => ?_⟩
    exact q1 B G0 ρ0 H0 G1 ρ1 σ1 H1 _ Ph E1 X1 S1 (st1.dql r) fun e2 c2 σ2 G2 ρ2 H2 E2 st2 X2 S2 q2 => k _ _ _ _ _ _ E2 (st1.trans st2) X2 S2 q2
theorem v_gnil (q : P e c) : VGs K w gNil [] e c P := by
  intro B G0 ρ0 H0 G ρ σ H vs Ph E X S r k
  cases r
  exact ⟨rfl, k _ _ _ _ _ _ E .refl X S q⟩
theorem v_gset {d : PyData} (hd : dat1 u = some d) (h : VE K w to e c fun x c1 => VE K w ti e c1 fun y c2 => ∃ k i xs j, x = .c k ∧ y = .d (.int i) ∧ c2[k]? = some (.l xs) ∧ ixN xs.length i = some j ∧ P e (c2.set k (.l (xs.set j d)))) :
    VG K w (gSub to ti rSetL) u e c P := by
  intro B G0 ρ0 H0 G ρ σ H v Ph E X S s f k
  refine h B G ρ σ H _ X S fun x vx c1 G1 ρ1 H1 E1 X1 s1 f1 q1 => ?_
  refine q1 B G1 ρ1 σ H1 _ X1 (E1.sl X S) fun y vy c2 G2 ρ2 H2 E2 X2 s2 f2 ⟨kk, ii, xs, jj, ex, ey, hc, hj, q2⟩ => ?_
  subst ex ey
  cases s2 with
  | d s2 =>
    cases s2
    obtain ⟨p, vs, rfl, hp, hl, r⟩ := cell_at X2 (E2.sh X1 s1) hc
    have E12 := E1.trans E2
    obtain ⟨G3, E3, X3, g3, q3⟩ := (Dd.of (E12.sh X s) f hd).data (E.trans E12) X2
    have m := List.mem_of_getElem? hp
    refine ⟨p, vs, ii, jj, rfl, rfl, hl, by rw [dql_len r]; exact hj, ?_⟩
    have X4 := X3.mut hp (o := .lst (vs.set jj v)) (x := .l (xs.set jj d)) (.l upd_same (dql_upd X3 hp ((r.imp g3).set jj q3)))
    have st : Stay B G2 ρ2 H2 G3 ρ2 (upd H2 p (.lst (vs.set jj v))) := ⟨fun b o g e => by
      rw [upd_ne fun z => X2.av p m (by rw [← z]; exact g)]
      exact e, fun b o g e => by
      rw [upd_ne fun z => X2.avb p m (by rw [← z]; exact g)]
      exact e, g3, [], by simp⟩
    have st2 := (E12.stay X).trans st
    exact k _ _ _ _ _ _ (E3.mut m) st2 X4 (st2.sl S) q2
theorem v_seq (h : VS K w ts e c { D with nx := fun e' c' => VS K w us e' c' D }) : VS K w (tSeq ts us) e c D := by
  intro B G ρ σ H Dh X S L
  refine h B G ρ σ H _ X S ⟨fun e' c' σ' G' ρ' H' E X' S' q => ?_, L.rt, L.bk, L.ct, L.xx⟩
  exact q B G' ρ' σ' H' Dh X' S' (L.re E)
theorem v_next (q : D.nx e c) : VS K w tNext e c D := fun B G ρ σ H Dh X S L => L.nx _ _ _ _ _ _ .refl X S q
theorem v_asg (h : VE K w te e c fun u c1 => VG K w g u e c1 D.nx) : VS K w (tAsg te g) e c D := by
  intro B G ρ σ H Dh X S L
  refine h B G ρ σ H _ X S fun u v c1 G1 ρ1 H1 E1 X1 s1 f1 q1 => ?_
  exact q1 B G ρ H G1 ρ1 σ H1 v _ E1 X1 (E1.sl X S) s1 f1 fun e2 c2 σ2 G2 ρ2 H2 E2 _ X2 S2 q2 => L.nx _ _ _ _ _ _ E2 X2 S2 q2
theorem v_drop (h : VE K w te e c fun _ c1 => D.nx e c1) : VS K w (tDrop te) e c D := by
  intro B G ρ σ H Dh X S L
  exact h B G ρ σ H _ X S fun u v c1 G1 ρ1 H1 E1 X1 s1 f1 q1 => L.nx _ _ _ _ _ _ E1 X1 (E1.sl X S) q1
theorem v_ret (h : VE K w te e c D.rt) : VS K w (tRet te) e c D := fun B G ρ σ H Dh X S L => h B G ρ σ H _ X S L.rt
theorem v_ifs (h : VT K w tt e c fun b c1 => if b = true then VS K w ts e c1 D else VS K w us e c1 D) : VS K w (tIfS tt ts us) e c D := by
  intro B G ρ σ H Dh X S L
  refine h B G ρ σ H _ X S fun b c1 G1 ρ1 H1 E1 X1 q1 => ?_
  cases b with
  | true => rw [if_pos rfl] at q1; rw [if_pos rfl]; exact q1 _ _ _ _ _ _ X1 (E1.sl X S) (L.re E1)
  | false => rw [if_neg (by decide)] at q1; rw [if_neg (by decide)]; exact q1 _ _ _ _ _ _ X1 (E1.sl X S) (L.re E1)
theorem v_cut (M : Ev → Cs → Prop) (h1 : VS K w ts e c { D with nx := M }) (h2 : ∀ e' c', M e' c' → VS K w us e' c' D) : VS K w (C8.tCut ts us) e c D := by
  intro B G ρ σ H Dh X S L
  refine ⟨fun σ' H' => ∃ e' c' G' ρ', Ext G ρ H G' ρ' H' ∧ Hx B G' ρ' c' H' ∧ Sl K w B G' ρ' H' σ' e' ∧ M e' c', h1 B G ρ σ H _ X S ⟨fun e' c' σ' G' ρ' H' E X' S' q => ⟨e', c', G', ρ', E, X', S', q⟩, L.rt, L.bk, L.ct, L.xx⟩, ?_⟩
  rintro σ' H' ⟨e', c', G', ρ', E, X', S', q⟩
  exact h2 e' c' q B G' ρ' σ' H' Dh X' S' (L.re E)
/-- a name bound: a new list is data then, or a cell -/
def bind1 (cell : Bool) (i : Nat) (u : W) (z : Ev × Cs) : Ev × Cs := match u with
  | .o xs => if cell = true then (z.1.set i (some (.c z.2.length)), z.2 ++ [.l xs]) else (z.1.set i (some (.d (.list xs))), z.2)
  | .od xs => (z.1.set i (some (.c z.2.length)), z.2 ++ [.m xs])
  | u => (z.1.set i (some u), z.2)
theorem bind1_ok (b : Bool) (i : Nat) (E : Ext G0 ρ0 H0 G ρ H) (X : Hx B G ρ c H) (S : Sl K w B G ρ H σ e) (s : Sh K w B G ρ H v u) (f : Fr H0 v u) :
    ∃ G' ρ', Ext G0 ρ0 H0 G' ρ' H ∧ Stay B G ρ H G' ρ' H ∧ Hx B G' ρ' (bind1 b i u (e, c)).2 H ∧ Sl K w B G' ρ' H (σ.set i (some v)) (bind1 b i u (e, c)).1 ∧
      ∀ {v' : V} {u' : W}, Sh K w B G ρ H v' u' → (u.noO = false → u'.noO = false → v' ≠ v) → Sh K w B G' ρ' H v' u' := by
  by_cases n : u.noO = true
  · refine ⟨G, ρ, E, .refl, ?_, ?_, fun s _ => s⟩
    · cases u <;> first
        | exact X
        | cases n
    · have := sl_set S s n i
      cases u <;> first
        | exact this
        | cases n
  cases s with
  | @o p vs xs h r g bb m =>
    obtain ⟨p', ep, hp⟩ := f
    cases ep
    have gr : ∀ q, G q → Gp G p q := fun q h => .inl h
    cases b with
    | false =>
      have X1 := X.data (by rw [h]; simp) m
      have st : Stay B G ρ H (Gp G p) ρ H := ⟨fun _ _ _ h => h, fun _ _ _ h => h, gr, [], by simp⟩
      refine ⟨_, _, E.data hp, st, X1, sl_set (st.sl S) (.d (.lst (.inr rfl) h (r.imp gr))) rfl i, fun {v' u'} s ne => ?_⟩
      by_cases n' : u'.noO = true
      · exact st.sh s n'
      · cases s with
        | o h' r' g' b' m' =>
          refine .o h' (r'.imp gr) (fun z => z.elim g' fun z => ne rfl rfl (by rw [z])) b' m'
        | od h' r' g' b' m' =>
          refine .od h' (Paired.mono (fun _ _ q => ⟨q.1, q.2.imp gr⟩) r') (fun z => z.elim g' fun z => ne rfl rfl (by rw [z])) b' m'
        | _ => exact absurd rfl n'
    | true =>
      have X1 := X.cell (.l h r) m g bb
      have st : Stay B G ρ H G (ρ ++ [p]) H := ⟨fun _ _ _ h => h, fun _ _ _ h => h, fun _ h => h, [p], rfl⟩
      refine ⟨_, _, E.cell hp, st, X1, sl_set (st.sl S) (.c ?_) rfl i, fun {v' u'} s ne => ?_⟩
      · show (ρ ++ [p])[c.length]? = some p
        rw [← X.len]
        simp
      by_cases n' : u'.noO = true
      · exact st.sh s n'
      · cases s with
        | o h' r' g' b' m' =>
          refine .o h' r' g' b' fun z => ?_
          rcases List.mem_append.mp z with z | z
          · exact m' z
          · exact ne rfl rfl (by rw [List.mem_singleton.mp z])
        | od h' r' g' b' m' =>
          refine .od h' r' g' b' fun z => ?_
          rcases List.mem_append.mp z with z | z
          · exact m' z
          · exact ne rfl rfl (by rw [List.mem_singleton.mp z])
        | _ => exact absurd rfl n'
  | @od p vs xs h r g bb m =>
    obtain ⟨p', ep, hp⟩ := f
    cases ep
    have X1 := X.cell (.m h r) m g bb
    have st : Stay B G ρ H G (ρ ++ [p]) H := ⟨fun _ _ _ h => h, fun _ _ _ h => h, fun _ h => h, [p], rfl⟩
    refine ⟨_, _, E.cell hp, st, X1, sl_set (st.sl S) (.c ?_) rfl i, fun {v' u'} s ne => ?_⟩
    · show (ρ ++ [p])[c.length]? = some p
      rw [← X.len]
      simp
    by_cases n' : u'.noO = true
    · exact st.sh s n'
    · cases s with
      | o h' r' g' b' m' =>
        refine .o h' r' g' b' fun z => ?_
        rcases List.mem_append.mp z with z | z
        · exact m' z
        · exact ne rfl rfl (by rw [List.mem_singleton.mp z])
      | od h' r' g' b' m' =>
        refine .od h' r' g' b' fun z => ?_
        rcases List.mem_append.mp z with z | z
        · exact m' z
        · exact ne rfl rfl (by rw [List.mem_singleton.mp z])
      | _ => exact absurd rfl n'
  | _ => exact absurd rfl n
theorem v_par (b1 b2 : Bool) (h : VA K w t e c fun us c1 => ∃ x y, us = [x, y] ∧ D.nx (bind1 b2 j y (bind1 b1 i x (e, c1))).1 (bind1 b2 j y (bind1 b1 i x (e, c1))).2) : VS K w (tPar i j t) e c D := by
  intro B G ρ σ H Dh X S L
  refine h B G ρ σ H _ X S fun us vs c1 G1 ρ1 H1 E1 X1 s1 f1 d1 ⟨x, y, e1, q1⟩ => ?_
  subst e1
  obtain ⟨v, v', rfl, sx, sy⟩ := v2 s1
  cases f1 with
  | cons fx f1 => cases f1 with
    | cons fy f1 =>
      obtain ⟨G2, ρ2, E2, st2, X2, S2, m2⟩ := bind1_ok b1 i E1 X1 (E1.sl X S) sx fx
      obtain ⟨G3, ρ3, E3, st3, X3, S3, m3⟩ := bind1_ok b2 j E2 X2 S2 (m2 sy fun a b => d1.1 a (v', y) (by simp) b) fy
      exact ⟨_, _, rfl, L.nx _ _ _ _ _ _ E3 X3 S3 q1⟩
theorem v_par3 (b1 b2 b3 : Bool) (h : VA K w t e c fun us c1 => ∃ x y z, us = [x, y, z] ∧ D.nx (bind1 b3 k z (bind1 b2 j y (bind1 b1 i x (e, c1)))).1 (bind1 b3 k z (bind1 b2 j y (bind1 b1 i x (e, c1)))).2) : VS K w (tPar3 i j k t) e c D := by
  intro B G ρ σ H Dh X S L
  refine h B G ρ σ H _ X S fun us vs c1 G1 ρ1 H1 E1 X1 s1 f1 d1 ⟨x, y, z, e1, q1⟩ => ?_
  subst e1
  cases s1 with
  | cons sx s1 => cases s1 with
    | cons sy s1 => cases s1 with
      | cons sz s1 =>
        cases s1
        cases f1 with
        | cons fx f1 => cases f1 with
          | cons fy f1 => cases f1 with
            | cons fz f1 =>
              obtain ⟨G2, ρ2, E2, st2, X2, S2, m2⟩ := bind1_ok b1 i E1 X1 (E1.sl X S) sx fx
              obtain ⟨G3, ρ3, E3, st3, X3, S3, m3⟩ := bind1_ok b2 j E2 X2 S2 (m2 sy fun a b => d1.1 a (_, y) (by simp) b) fy
              obtain ⟨G4, ρ4, E4, st4, X4, S4, m4⟩ := bind1_ok b3 k E3 X3 S3 (m3 (m2 sz fun a b => d1.1 a (_, z) (by simp) b) fun a b => d1.2.1 a (_, z) (by simp) b) fz
              exact ⟨_, _, _, rfl, L.nx _ _ _ _ _ _ E4 X4 S4 q1⟩
end
end Gd
namespace Gd
open PySem PySem.Spec PyProof.Rows L2
section
variable {K : PySem.W.Frag} {w : World} {B G G' G'' G0 : Addr → Prop} {ρ ρ' ρ'' ρ0 : List Addr} {H H' H'' H0 : Hp} {c c' : Cs} {σ : L2.St} {e e' : Ev} {v vx vy : V} {u x y : W}
variable {Q : W → Cs → Prop} {QA : List W → Cs → Prop} {QB : Bool → Cs → Prop} {QO : Option Int → Cs → Prop} {ta tb tc te to ti : TE} {t : TA} {tt tt1 : TT} {P : Ev → Cs → Prop} {D : DV} {Dh : Ends} {g : TG} {ts us tb : TS} {ws : List Nat}
/-- what an item is, from the heap at a turn on -/
def Yv (B G : Addr → Prop) (ρ : List Addr) (c : Cs) (H : Hp) (x : V) (H' : Hp) (d : PyData) : Prop := ∃ G', Ext G ρ H G' ρ H' ∧ Hx B G' ρ c H' ∧ Dq G' H' x d
abbrev inV' (D : DV) (N : Ev → Cs → Prop) : DV := { D with nx := N, ct := N, bk := D.nx }
/-- cells from n on are data now -/
def frz1 (n : Nat) (c : Cs) : Option W → Option W
  | some (.c k) => if k < n then some (.c k) else match c[k]? with
    | some (.l xs) => some (.d (.list xs))
    | _ => none
  | some (.lc ks) => if ks.all (fun j => decide (j < n)) = true then some (.lc ks) else none
  | a => a
def frz (n : Nat) (c : Cs) (e : Ev) : Ev := e.map (frz1 n c)
def Wk (n : Nat) (P : Ev → Cs → Prop) (e : Ev) (c : Cs) : Prop := P (frz n c e) (c.take n)
theorem ptake {α β : Type} {F : α → β → Prop} : ∀ {xs : List α} {ys : List β} (n : Nat), Paired F xs ys → Paired F (xs.take n) (ys.take n)
  | _, _, 0, _ => .nil
  | _, _, _ + 1, .nil => .nil
  | _, _, n + 1, .cons r t => .cons r (ptake n t)
theorem wk_ok {n : Nat} (E : Ext G0 ρ0 H0 G ρ H) (X : Hx B G ρ c H) (S : Sl K w B G ρ H σ e) (hn : ρ0.length ≤ n) :
    ∃ G' ρ', Ext G0 ρ0 H0 G' ρ' H ∧ Hx B G' ρ' (c.take n) H ∧ Sl K w B G' ρ' H σ (frz n c e) := by
  obtain ⟨ys, hy, hz⟩ := E.pre
  have nd := X.nd
  have nd2 : ∀ p, p ∈ ρ.take n → p ∈ ρ.drop n → False := fun p h1 h2 => by
    rw [← List.take_append_drop n ρ] at nd
    exact (List.nodup_append.mp nd).2.2 p h1 p h2 rfl
  have dr : ∀ p ∈ ρ.drop n, H0 p = none := fun p hp => by
    refine hz p ?_
    rw [hy, List.drop_append] at hp
    rcases List.mem_append.mp hp with h | h
    · rw [List.drop_of_length_le hn] at h
      cases h
    · exact List.mem_of_mem_drop h
  let G' : Addr → Prop := fun p => G p ∨ p ∈ ρ.drop n
  have gr : ∀ p, G p → G' p := fun _ h => .inl h
  have X' : Hx B G' (ρ.take n) (c.take n) H := by
    refine ⟨List.Nodup.sublist (List.take_sublist n ρ) nd, fun p hp g => ?_, fun p hp => X.avb p (List.mem_of_mem_take hp), fun p g => ?_, X.liveb, ?_⟩
    · rcases g with g | g
      · exact X.av p (List.mem_of_mem_take hp) g
      · exact nd2 p hp g
    · rcases g with g | g
      · exact X.live p g
      · exact X.trk (List.mem_of_mem_drop g)
    · exact ptake n (Paired.mono (fun p x r => r.mv rfl (fun _ _ _ h => h) gr) X.cells)
  refine ⟨G', ρ.take n, ⟨E.kp, E.tr, ⟨ys.take (n - ρ0.length), ?_, fun y h => hz y (List.mem_of_mem_take h)⟩, fun p h => .inl (E.gr p h), fun p h => ?_⟩, X', ?_⟩
  · rw [hy, List.take_append, List.take_of_length_le hn]
  · rcases h with h | h
    · exact E.nw p h
    · exact .inr (dr p h)
  · have one : ∀ a z, So K w B G ρ H a z → So K w B G' (ρ.take n) H a (frz1 n c z) := by
      intro a z s
      cases z with
      | none => trivial
      | some u =>
        obtain ⟨no, v, rfl, s⟩ := s
        have lcs : ∀ {ks : List Nat}, Sh K w B G ρ H v (.lc ks) → (∀ k ∈ ks, k < n) → Sh K w B G' (ρ.take n) H v (.lc ks) := by
          intro ks s hk
          cases s with
          | lc h g r => exact .lc h (gr _ g) (r.mono fun k hm q e => by rw [List.getElem?_take, if_pos (hk k hm)]; exact e)
        have oth : ∀ {u : W}, u.noO = true → (∀ k, u ≠ .c k) → (∀ ks, u ≠ .lc ks) → Sh K w B G ρ H v u → Sh K w B G' (ρ.take n) H v u := by
          intro u no nc nl s
          cases s with
          | d q => exact .d (q.imp gr)
          | o _ _ _ _ _ => cases no
          | od _ _ _ _ _ => cases no
          | b h r b => exact .b h (r.imp gr) b
          | s q => exact .s q
          | c _ => exact absurd rfl (nc _)
          | ty => exact .ty
          | tt h g => exact .tt h (gr _ g)
          | set h g => exact .set h (gr _ g)
          | x => exact .x
          | dm h r g => exact .dm h (Paired.mono (fun _ _ q => ⟨q.1, q.2.imp gr⟩) r) (gr _ g)
          | lc _ _ _ => exact absurd rfl (nl _)
        by_cases isc : ∃ k, u = .c k
        · obtain ⟨k, rfl⟩ := isc
          cases s with
          | @c p _ hp =>
            show So K w B G' (ρ.take n) H (some (.ref p)) (if k < n then some (.c k) else match c[k]? with | some (.l xs) => some (.d (.list xs)) | _ => none)
            by_cases hk : k < n
            · rw [if_pos hk]
              refine ⟨rfl, _, rfl, .c ?_⟩
              rw [List.getElem?_take, if_pos hk]
              exact hp
            · rw [if_neg hk]
              split
              · rename_i xs hc
                obtain ⟨p', hp', r⟩ := paired_get X.cells hc
                rw [hp] at hp'
                cases hp'
                cases r with
                | l h r =>
                  refine ⟨rfl, _, rfl, .d (.lst (.inr ?_) h (r.imp gr))⟩
                  refine List.mem_of_getElem? (i := k - n) ?_
                  rw [List.getElem?_drop, show n + (k - n) = k by omega]
                  exact hp
              · trivial
        · by_cases isl : ∃ ks, u = .lc ks
          · obtain ⟨ks, rfl⟩ := isl
            show So K w B G' (ρ.take n) H (some v) (if ks.all (fun j => decide (j < n)) = true then some (.lc ks) else none)
            by_cases ha : ks.all (fun j => decide (j < n)) = true
            · rw [if_pos ha]
              exact ⟨no, v, rfl, lcs s fun k hk => of_decide_eq_true (List.all_eq_true.mp ha k hk)⟩
            · rw [if_neg ha]
              trivial
          have e : frz1 n c (some u) = some u := by
            unfold frz1
            split
            · rename_i e
              cases e
              exact absurd ⟨_, rfl⟩ isc
            · rename_i e
              cases e
              exact absurd ⟨_, rfl⟩ isl
            · rfl
          rw [e]
          exact ⟨no, v, rfl, oth no (fun k e => isc ⟨k, e⟩) (fun ks e => isl ⟨ks, e⟩) s⟩
    have all : ∀ {σ : L2.St} {e : Ev}, Sl K w B G ρ H σ e → Sl K w B G' (ρ.take n) H σ (frz n c e) := by
      intro σ e S
      induction S with
      | nil => exact .nil
      | cons s _ ih => exact .cons (one _ _ s) ih
    exact all S
theorem rf_v {J : It} {n : Nat} {GG : Hp → Prop} {Y : Nat → Hp → V → Hp → Prop} (wk : Walk J n GG Y) (Pv : Nat → Ev → Cs → Prop) (item : Nat → PyData → Prop)
    (X : Hx B G ρ c H) (S : Sl K w B G ρ H σ e) (L : Lf K w B G ρ H D Dh) (h0 : Pv 0 e c)
    (hG : ∀ i e' c' G' ρ' H', Ext G ρ H G' ρ' H' → Hx B G' ρ' c' H' → Pv i e' c' → GG H')
    (hY : ∀ i x e' c' G' ρ' H' H'', Ext G ρ H G' ρ' H' → Hx B G' ρ' c' H' → Pv i e' c' → i < n → Y i H' x H'' → ∃ d, item i d ∧ Yv B G' ρ' c' H' x H'' d)
    (hs : ∀ i d e' c', i < n → item i d → Pv i e' c' → VG K w g (.d d) e' c' fun e2 c2 => VS K w tb e2 c2 (inV' D (Wk c.length (Pv (i + 1)))))
    (hd : ∀ e' c', Pv n e' c' → D.nx e' c') : Rf g tb Dh σ J H := by
  refine rf_it wk (fun i σ' H' => ∃ e' c' G' ρ', Ext G ρ H G' ρ' H' ∧ Hx B G' ρ' c' H' ∧ Sl K w B G' ρ' H' σ' e' ∧ Pv i e' c') ⟨e, c, G, ρ, .refl, X, S, h0⟩ ?_ ?_ ?_
  · rintro i σ' H' ⟨e', c', G', ρ', E', X', S', q⟩
    exact hG i e' c' G' ρ' H' E' X' q
  · rintro i x σ' H' H'' hi ⟨e', c', G', ρ', E', X', S', q⟩ y
    obtain ⟨d, hd', G2, E2, X2, q2⟩ := hY i x e' c' G' ρ' H' H'' E' X' q hi y
    refine hs i d e' c' hi hd' q B G' ρ' H' G2 ρ' σ' H'' x _ E2 X2 (E2.sl X' S') (.d q2) trivial fun e3 c3 σ3 G3 ρ3 H3 E3 _ X3 S3 q3 => ?_
    have EE := E'.trans E3
    have fin : LfN K w B G3 ρ3 H3 (Wk c.length (Pv (i + 1))) fun σ' H' => ∃ e' c' G' ρ', Ext G ρ H G' ρ' H' ∧ Hx B G' ρ' c' H' ∧ Sl K w B G' ρ' H' σ' e' ∧ Pv (i + 1) e' c' := fun e4 c4 σ4 G4 ρ4 H4 E4 X4 S4 q4 => by
      obtain ⟨G5, ρ5, E5, X5, S5⟩ := wk_ok (n := c.length) (EE.trans E4) X4 S4 (Nat.le_of_eq X.len)
      exact ⟨_, _, G5, ρ5, E5, X5, S5, q4⟩
    exact q3 B G3 ρ3 σ3 H3 _ X3 S3 ⟨fin, L.rt.re EE, L.nx.re EE, fin, L.xx.re EE⟩
  · rintro σ' H' ⟨e', c', G', ρ', E', X', S', q⟩
    exact L.nx _ _ _ _ _ _ E' X' S' (hd e' c' q)
/-- comprehension: what a target touches -/
def GOn (ws : List Nat) (g : TG) : Prop := ∀ (v : V) (σ : L2.St) (H : Hp) (T : L2.St → Hp → Prop), g v σ H T → g v σ H fun σ' H' => wipe σ' ws = wipe σ ws ∧ T σ' H'
def GOns (ws : List Nat) (g : TGs) : Prop := ∀ (v : List V) (σ : L2.St) (H : Hp) (T : L2.St → Hp → Prop), g v σ H T → g v σ H fun σ' H' => wipe σ' ws = wipe σ ws ∧ T σ' H'
theorem wipe_set {i : Nat} {a : Option V} : ∀ {ws : List Nat} {σ : L2.St}, i ∈ ws → wipe (σ.set i a) ws = wipe σ ws
  | v :: ws, σ, h => by
    unfold wipe
    by_cases e : i ∈ ws
    · rw [wipe_set e]
    · have e2 : i = v := by
        rcases List.mem_cons.mp h with h | h
        · exact h
        · exact absurd h e
      subst e2
      have key : ∀ {ws : List Nat}, i ∉ ws → wipe (σ.set i a) ws = (wipe σ ws).set i a := by
        intro ws
        induction ws with
        | nil => intro _; rfl
        | cons b ws ih =>
          intro n
          simp only [List.mem_cons, not_or] at n
          unfold wipe
          rw [ih n.2, List.set_comm _ _ n.1]
      rw [key e, List.set_set]
theorem on_name {i : Nat} (h : i ∈ ws) : GOn ws (gName i) := fun v σ H T q => ⟨wipe_set h, q⟩
theorem on_tup {n : Nat} {tg : TGs} (h : GOns ws tg) : GOn ws (gTup K n tg) := fun v σ H T ⟨a, xs, h1, h2, h3, q⟩ => ⟨a, xs, h1, h2, h3, h xs σ H T q⟩
theorem on_nil : GOns ws gNil := fun v σ H T ⟨h, q⟩ => ⟨h, rfl, q⟩
theorem on_cons {i : Nat} {tg : TGs} (h : i ∈ ws) (h2 : GOns ws tg) : GOns ws (gCons (gName i) tg) := fun v σ H T ⟨a, r, h1, q⟩ => ⟨a, r, h1, by
  have q2 : tg r (σ.set i (some a)) H T := q
  have z := h2 r _ H T q2
  rw [wipe_set h] at z
  exact z⟩
theorem wipe_wipe : ∀ (ws : List Nat) (σ : L2.St), wipe (wipe σ ws) ws = wipe σ ws
  | [], _ => rfl
  | v :: ws, σ => by
    have ih := wipe_wipe ws σ
    show (wipe ((wipe σ ws).set v none) ws).set v none = (wipe σ ws).set v none
    by_cases h : v ∈ ws
    · rw [wipe_set h, ih]
    · have key : ∀ {us : List Nat} {τ : L2.St}, v ∉ us → wipe (τ.set v none) us = (wipe τ us).set v none := by
        intro us
        induction us with
        | nil => intro _ _; rfl
        | cons b us ih =>
          intro τ n
          simp only [List.mem_cons, not_or] at n
          unfold wipe
          rw [ih n.2, List.set_comm _ _ n.1]
      rw [key h, ih, List.set_set]
def wipeE (e : Ev) : List Nat → Ev
  | [] => e
  | v :: vs => (wipeE e vs).set v none
theorem sl_wipe (S : Sl K w B G ρ H σ e) : ∀ ws : List Nat, Sl K w B G ρ H (wipe σ ws) (wipeE e ws)
  | [] => S
  | v :: ws => paired_set (show So K w B G ρ H none none from trivial) v (sl_wipe S ws)
/-- a turn of a comprehension -/
def VTurn (K : PySem.W.Frag) (w : World) (g : TG) (tt : TT) (te : TE) (ws : List Nat) (e : Ev) (c : Cs) (d : PyData) (yes : PyData → Cs → Prop) (no : Cs → Prop) : Prop :=
  VG K w g (.d d) (wipeE e ws) c fun e2 c2 => VT K w tt e2 c2 fun b c3 => if b = true then VE K w te e2 c3 fun y c4 => ∃ z, dat1 y = some z ∧ yes z c4 else no c3
theorem rl_v {J : It} {n : Nat} {GG : Hp → Prop} {Y : Nat → Hp → V → Hp → Prop} (wk : Walk J n GG Y) (Pv : Nat → List PyData → Cs → Prop) (item : Nat → PyData → Prop)
    {T : VK} (EB : Ext G0 ρ0 H0 G ρ H) (X : Hx B G ρ c H) (S : Sl K w B G ρ H σ e) (kt : Kt K w B G0 ρ0 H0 Q T) (on : GOn ws g) (hz : n < sizeLine) (h0 : Pv 0 [] c)
    (hG : ∀ i acc c' G' ρ' H', Ext G ρ H G' ρ' H' → Hx B G' ρ' c' H' → Pv i acc c' → GG H')
    (hY : ∀ i x acc c' G' ρ' H' H'', Ext G ρ H G' ρ' H' → Hx B G' ρ' c' H' → Pv i acc c' → i < n → Y i H' x H'' → ∃ d, item i d ∧ Yv B G' ρ' c' H' x H'' d)
    (hs : ∀ i d acc c', i < n → acc.length ≤ i → item i d → Pv i acc c' → VTurn K w g tt te ws e c' d (fun z c4 => Pv (i + 1) (acc ++ [z]) c4) (fun c3 => Pv (i + 1) acc c3))
    (hd : ∀ acc c', Pv n acc c' → Q (.o acc) c') : Rl g tt te ws σ T J H := by
  refine rl_it wk fun C hC => ⟨fun i H' => ∃ acc c' G' ρ' av, Ext G ρ H G' ρ' H' ∧ Hx B G' ρ' c' H' ∧ H' C = some (.lst av) ∧ DqL G' H' av acc ∧ ¬ G' C ∧ ¬ B C ∧ C ∉ ρ' ∧ acc.length ≤ i ∧ Pv i acc c', ?_, ?_, ?_, ?_⟩
  · exact ⟨[], c, G, ρ, [], .new hC, X.new hC, upd_same, .nil, fun g => X.live C g hC, fun g => X.liveb C g hC, fun z => X.trk z hC, Nat.zero_le _, h0⟩
  · rintro i H' ⟨acc, c', G', ρ', av, E', X', _, _, _, _, _, _, q⟩
    exact hG i acc c' G' ρ' H' E' X' q
  · rintro i x H' H'' hi ⟨acc, c', G', ρ', av, E', X', hc, ra, gC, bC, nC, al, q⟩ y
    obtain ⟨d, hd', G2, E2, X2, q2⟩ := hY i x acc c' G' ρ' H' H'' E' X' q hi y
    have hturn := hs i d acc c' hi al hd' q
    unfold lcT
    have S' := sl_wipe (E'.sl X S) ws
    have hsz : av.length < sizeLine := by rw [dql_len ra]; omega
    have main := on x (wipe σ ws) H'' _ (hturn B G' ρ' H' G2 ρ' (wipe σ ws) H'' x (fun σ2 H2 => tt σ2 H2 fun b H3 => if b = true then te σ2 H3 fun y H4 => ∃ acc, H4 C = some (.lst acc) ∧ acc.length < sizeLine ∧
        (∃ acc' c' G' ρ' av, Ext G ρ H G' ρ' (upd H4 C (.lst (acc ++ [y]))) ∧ Hx B G' ρ' c' (upd H4 C (.lst (acc ++ [y]))) ∧ (upd H4 C (.lst (acc ++ [y]))) C = some (.lst av) ∧ DqL G' (upd H4 C (.lst (acc ++ [y]))) av acc' ∧ ¬ G' C ∧ ¬ B C ∧ C ∉ ρ' ∧ acc'.length ≤ i + 1 ∧ Pv (i + 1) acc' c')
        else ∃ acc c' G' ρ' av, Ext G ρ H G' ρ' H3 ∧ Hx B G' ρ' c' H3 ∧ H3 C = some (.lst av) ∧ DqL G' H3 av acc ∧ ¬ G' C ∧ ¬ B C ∧ C ∉ ρ' ∧ acc.length ≤ i + 1 ∧ Pv (i + 1) acc c') E2 X2 (E2.sl X' S') (.d q2) trivial fun e3 c3 σ3 G3 ρ3 H3 E3 _ X3 S3 q3 => ?_)
    · rw [wipe_wipe] at main
      exact main
    refine q3 B G3 ρ3 σ3 H3 _ X3 S3 fun b c4 G4 ρ4 H4 E4 X4 q4 => ?_
    have offG : ∀ {G4 : Addr → Prop} {ρ4 : List Addr} {H4 : Hp}, Ext G' ρ' H' G4 ρ4 H4 → H4 C = some (.lst av) ∧ ¬ G4 C ∧ C ∉ ρ4 := fun E => ⟨E.kp _ _ hc nC, fun z => (E.nw _ z).elim gC fun z => (by rw [hc] at z; cases z), E.nin hc nC⟩
    cases b with
    | false =>
      rw [if_neg (by decide)] at q4
      rw [if_neg (by decide)]
      obtain ⟨a1, a2, a3⟩ := offG (E3.trans E4)
      exact ⟨acc, c4, G4, ρ4, av, E'.trans (E3.trans E4), X4, a1, (E3.trans E4).dql X' ra, a2, bC, a3, by omega, q4⟩
    | true =>
      rw [if_pos rfl] at q4
      rw [if_pos rfl]
      refine q4 B G4 ρ4 σ3 H4 _ X4 (E4.sl X3 S3) fun y vy c5 G5 ρ5 H5 E5 X5 s5 f5 ⟨z, hz5, q5⟩ => ?_
      have E35 := (E3.trans E4).trans E5
      obtain ⟨a1, a2, a3⟩ := offG E35
      have f5' : Fr H' vy y := (E3.trans E4).fr f5
      obtain ⟨G6, E6, X6, g6, q6⟩ := (Dd.of s5 f5' hz5).data E35 X5
      obtain ⟨_, a4, _⟩ := offG E6
      have ne : ∀ q, G6 q → q ≠ C := fun q g z => a4 (by rw [← z]; exact g)
      have kk : ∀ b o, G6 b → H5 b = some o → upd H5 C (.lst (av ++ [vy])) b = some o := fun b o g e => by rw [upd_ne (ne b g)]; exact e
      refine ⟨av, a1, hsz, acc ++ [z], c5, G6, ρ5, av ++ [vy], ?_, ?_, upd_same, ?_, a4, bC, a3, by simp; exact al, q5⟩
      · refine ⟨fun b o h n => ?_, fun b h => ?_, (E'.trans E6).pre, (E'.trans E6).gr, (E'.trans E6).nw⟩
        · rw [upd_ne (ne_of_none h hC)]
          exact (E'.trans E6).kp b o h n
        · by_cases z : b = C
          · rw [z, upd_same]; simp
          · rw [upd_ne z]; exact (E'.trans E6).tr b h
      · refine ⟨X6.nd, X6.av, X6.avb, fun q g => by rw [upd_ne (ne q g)]; exact X6.live q g, fun q g => ?_, cells_off ne X6.cells a3⟩
        rw [upd_ne fun z => bC (by rw [← z]; exact g)]
        exact X6.liveb q g
      · have r1 : DqL G6 H5 av acc := E6.dql X' ra
        have r2 : DqL G6 H5 (av ++ [vy]) (acc ++ [z]) := r1.app (.cons q6 .nil)
        exact DqL.mono kk (fun _ h => h) _ _ r2
  · rintro H' ⟨acc, c', G', ρ', av, E', X', hc, ra, gC, bC, nC, al, q⟩
    exact kt _ _ _ _ _ _ (EB.trans E') X' (.o hc ra gC bC nC) ⟨C, rfl, EB.was hC⟩ (hd acc c' q)
end
end Gd
namespace Gd
open PySem PySem.Spec PyProof.Rows L2
section
variable {K : PySem.W.Frag} {w : World} {B G G' G'' G0 : Addr → Prop} {ρ ρ' ρ'' ρ0 : List Addr} {H H' H'' H0 : Hp} {c c' : Cs} {σ : L2.St} {e e' : Ev} {v vx vy : V} {u u2 x y : W}
variable {Q : W → Cs → Prop} {QA : List W → Cs → Prop} {QB : Bool → Cs → Prop} {QO : Option Int → Cs → Prop} {ta tb tc te te1 to ti : TE} {t : TA} {tt tt1 : TT} {P : Ev → Cs → Prop} {D : DV} {Dh : Ends} {g : TG} {ts us tS : TS} {ws : List Nat}
def IsIt (wf : (It → Hp → Prop) → Hp → Prop) (B G : Addr → Prop) (ρ : List Addr) (H : Hp) (n : Nat) (item : Nat → PyData → Prop) (keep : Cs → Prop) : Prop :=
  ∃ (J : It) (GG : Hp → Prop) (Y : Nat → Hp → V → Hp → Prop), Walk J n GG Y ∧ (∀ R, R J H → wf R H) ∧ (∀ c' G' ρ' H', Ext G ρ H G' ρ' H' → Hx B G' ρ' c' H' → keep c' → GG H') ∧
    ∀ i x c' G' ρ' H' H'', Ext G ρ H G' ρ' H' → Hx B G' ρ' c' H' → keep c' → i < n → Y i H' x H'' → ∃ d, item i d ∧ Yv B G' ρ' c' H' x H'' d
def ItU (K : PySem.W.Frag) (w : World) (wf : (It → Hp → Prop) → V → Hp → Prop) (u : W) (c : Cs) (n : Nat) (item : Nat → PyData → Prop) (keep : Cs → Prop) : Prop :=
  ∀ B G ρ H v, Hx B G ρ c H → Sh K w B G ρ H v u → IsIt (fun R H => wf R v H) B G ρ H n item keep
def ItA (K : PySem.W.Frag) (w : World) (wf : (It → Hp → Prop) → List V → Hp → Prop) (us : List W) (c : Cs) (n : Nat) (item : Nat → PyData → Prop) (keep : Cs → Prop) : Prop :=
  ∀ B G ρ H vs, Hx B G ρ c H → Paired (Sh K w B G ρ H) vs us → IsIt (fun R H => wf R vs H) B G ρ H n item keep
theorem walkL {a : Addr} {n : Nat} : Walk (Itl K a) n (fun H => ∃ vs, SqL K H a vs ∧ vs.length = n) (fun i H x H' => H' = H ∧ ∀ vs, SqL K H a vs → vs[i]? = some x) :=
  ⟨fun i _ hi ⟨vs, q, e⟩ => ⟨vs, vs[i], q, by simp [e, hi]⟩, fun _ ⟨vs, q, e⟩ => ⟨vs, q, by omega⟩, fun _ _ _ _ _ _ y => y⟩
theorem yv_same (X : Hx B G ρ c H) {x : V} {d : PyData} (q : Dq G H x d) : Yv B G ρ c H x H d := ⟨G, .refl, X, q⟩
theorem it_l {xs : List PyData} (h : Lv c u xs) : ItU K w (wU K) u c xs.length (fun i d => xs[i]? = some d) (fun c' => Lv c' u xs) := by
  intro B G ρ H v X s
  obtain ⟨a, vs, rfl, h1, h2⟩ := h.seq X s
  refine ⟨Itl K a, _, _, walkL (n := xs.length), fun R r => .inl ⟨a, rfl, ⟨vs, h1⟩, r⟩, fun c' G' ρ' H' E X' kp => ?_, fun i x c' G' ρ' H' H'' E X' kp hi y => ?_⟩
  · obtain ⟨a', vs', e, h1', h2'⟩ := kp.seq X' (E.sh X s)
    cases e
    exact ⟨vs', h1', dql_len h2'⟩
  · obtain ⟨rfl, y⟩ := y
    obtain ⟨a', vs', e, h1', h2'⟩ := kp.seq X' (E.sh X s)
    cases e
    obtain ⟨d, e1, e2⟩ := DqL.get h2' (y vs' h1')
    exact ⟨d, e1, yv_same X' e2⟩
theorem it_s {z : Str} : ItU K w (wU K) (.d (.str z)) c z.cps.size (fun i d => ∃ a, (tl z)[i]? = some a ∧ d = .str ⟨#[a]⟩) (fun _ => True) := by
  intro B G ρ H v X s
  cases s with
  | d q =>
    cases q
    refine ⟨Its z, _, _, walk_str, fun R r => .inr (.inr ⟨z, rfl, r⟩), fun _ _ _ _ _ _ _ => trivial, fun i x c' G' ρ' H' H'' E X' _ hi y => ?_⟩
    obtain ⟨rfl, a, ha, rfl⟩ := y
    exact ⟨_, ⟨a, by rw [← ha]; simp [tl], rfl⟩, yv_same X' (.str _)⟩
theorem it_1 {j : Int} (b1 : -(2 ^ 62) ≤ j) (b2 : j < 2 ^ 62) : ItA K w wR1 [.d (.int j)] c j.toNat (fun i d => d = .int (i : Int)) (fun _ => True) := by
  intro B G ρ H vs X s0
  obtain ⟨v, rfl, s⟩ := v1 s0
  cases s with
  | d q =>
    cases q
    refine ⟨Itr 0 j.toNat, _, _, walk_range, fun R r => ⟨j, rfl, b1, b2, r⟩, fun _ _ _ _ _ _ _ => trivial, fun i x c' G' ρ' H' H'' E X' _ hi y => ?_⟩
    obtain ⟨rfl, rfl⟩ := y
    exact ⟨_, rfl, yv_same X' (by show Dq G' H'' (V.int (0 + (i : Int))) _; rw [Int.zero_add]; exact .int _)⟩
theorem yv_tup (X : Hx B G ρ c H) {T : Addr} (n : H T = none) {vs : List V} {xs : List PyData} (r : DqL G H vs xs) : Yv B G ρ c H (.ref T) (upd H T (.tup vs)) (.tuple xs) :=
  ⟨Gp G T, (Ext.new n).data n, (X.new n).data (by rw [upd_same]; simp) (fun z => X.trk z n), .tup (.inr rfl) upd_same ((r.new n).imp fun _ h => .inl h)⟩
theorem walkE {a : Addr} {n : Nat} : Walk (Ite K a) n (fun H => ∃ vs, SqL K H a vs ∧ vs.length = n) (fun i H v H' => ∃ T x, v = .ref T ∧ H T = none ∧ H' = upd H T (.tup [.int (i : Nat), x]) ∧ ∀ xs, SqL K H a xs → xs[i]? = some x) :=
  ⟨fun i _ hi ⟨vs, q, e⟩ => ⟨vs, vs[i], q, by simp [e, hi]⟩, fun _ ⟨vs, q, e⟩ => ⟨vs, q, by omega⟩, fun _ _ _ _ _ _ y => y⟩
theorem it_e {xs : List PyData} (h : Lv c u xs) : ItA K w (wE K) [u] c xs.length (fun i d => ∃ z, xs[i]? = some z ∧ d = .tuple [.int (i : Int), z]) (fun c' => Lv c' u xs) := by
  intro B G ρ H vs X s0
  obtain ⟨v, rfl, s⟩ := v1 s0
  obtain ⟨a, vs, rfl, h1, h2⟩ := h.seq X s
  refine ⟨Ite K a, _, _, walkE (n := xs.length), fun R r => ⟨a, vs, rfl, h1, r⟩, fun c' G' ρ' H' E X' kp => ?_, fun i x c' G' ρ' H' H'' E X' kp hi y => ?_⟩
  · obtain ⟨a', vs', e, h1', h2'⟩ := kp.seq X' (E.sh X s)
    cases e
    exact ⟨vs', h1', dql_len h2'⟩
  · obtain ⟨T, x, rfl, hT, rfl, y⟩ := y
    obtain ⟨a', vs', e, h1', h2'⟩ := kp.seq X' (E.sh X s)
    cases e
    obtain ⟨d, e1, e2⟩ := DqL.get h2' (y vs' h1')
    exact ⟨_, ⟨d, e1, rfl⟩, yv_tup X' hT (.cons (.int _) (.cons e2 .nil))⟩
theorem walkZ {a b : Addr} {n m : Nat} : Walk (Itz K a b) (min n m) (fun H => ∃ vs us, SqL K H a vs ∧ vs.length = n ∧ SqL K H b us ∧ us.length = m) (fun i H v H' => ∃ T x y, v = .ref T ∧ H T = none ∧ H' = upd H T (.tup [x, y]) ∧ (∀ xs, SqL K H a xs → xs[i]? = some x) ∧ ∀ ys, SqL K H b ys → ys[i]? = some y) :=
  ⟨fun i _ hi ⟨vs, us, q, e, q', e'⟩ => ⟨vs, us, vs[i], us[i], q, q', by simp, by simp⟩, fun _ ⟨vs, us, q, e, q', e'⟩ => ⟨vs, us, q, q', by omega⟩, fun _ _ _ _ _ _ y => y⟩
theorem it_z {xs ys : List PyData} (h : Lv c u xs) (h' : Lv c u2 ys) : ItA K w (wZ K) [u, u2] c (min xs.length ys.length) (fun i d => ∃ a b, xs[i]? = some a ∧ ys[i]? = some b ∧ d = .tuple [a, b]) (fun c' => Lv c' u xs ∧ Lv c' u2 ys) := by
  intro B G ρ H vs X s0
  obtain ⟨v, v', rfl, s, s'⟩ := v2 s0
  obtain ⟨a, vs, rfl, h1, h2⟩ := h.seq X s
  obtain ⟨b, us, rfl, g1, g2⟩ := h'.seq X s'
  refine ⟨Itz K a b, _, _, walkZ (n := xs.length) (m := ys.length), fun R r => ⟨a, b, vs, us, rfl, h1, g1, r⟩, fun c' G' ρ' H' E X' kp => ?_, fun i x c' G' ρ' H' H'' E X' kp hi y => ?_⟩
  · obtain ⟨a', vs', e, h1', h2'⟩ := kp.1.seq X' (E.sh X s)
    cases e
    obtain ⟨b', us', e, g1', g2'⟩ := kp.2.seq X' (E.sh X s')
    cases e
    exact ⟨vs', us', h1', dql_len h2', g1', dql_len g2'⟩
  · obtain ⟨T, x, z, rfl, hT, rfl, y, y'⟩ := y
    obtain ⟨a', vs', e, h1', h2'⟩ := kp.1.seq X' (E.sh X s)
    cases e
    obtain ⟨b', us', e, g1', g2'⟩ := kp.2.seq X' (E.sh X s')
    cases e
    obtain ⟨d, e1, e2⟩ := DqL.get h2' (y vs' h1')
    obtain ⟨d', e1', e2'⟩ := DqL.get g2' (y' us' g1')
    exact ⟨_, ⟨d, d', e1, e1', rfl⟩, yv_tup X' hT (.cons e2 (.cons e2' .nil))⟩
def VFU (K : PySem.W.Frag) (w : World) (wf : (It → Hp → Prop) → V → Hp → Prop) (u : W) (e : Ev) (c : Cs) (g : TG) (ts : TS) (D : DV) : Prop :=
  ∀ B G ρ σ H v Dh, Hx B G ρ c H → Sl K w B G ρ H σ e → Sh K w B G ρ H v u → Lf K w B G ρ H D Dh → wf (Rf g ts Dh σ) v H
def VFA (K : PySem.W.Frag) (w : World) (wf : (It → Hp → Prop) → List V → Hp → Prop) (us : List W) (e : Ev) (c : Cs) (g : TG) (ts : TS) (D : DV) : Prop :=
  ∀ B G ρ σ H vs Dh, Hx B G ρ c H → Sl K w B G ρ H σ e → Paired (Sh K w B G ρ H) vs us → Lf K w B G ρ H D Dh → wf (Rf g ts Dh σ) vs H
theorem v_forU (h : VE K w te e c fun u c1 => VFU K w (wU K) u e c1 g ts D) : VS K w (tFor (iU K te) g ts) e c D := by
  intro B G ρ σ H Dh X S L
  exact rd_forU (h B G ρ σ H _ X S fun u v c1 G1 ρ1 H1 E1 X1 s1 f1 q1 => q1 B G1 ρ1 σ H1 v Dh X1 (E1.sl X S) s1 (L.re E1))
theorem v_for1 (h : VA K w t e c fun u c1 => VFA K w wR1 u e c1 g ts D) : VS K w (tFor (iRng1 t) g ts) e c D := by
  intro B G ρ σ H Dh X S L
  exact rd_for1 (h B G ρ σ H _ X S fun u v c1 G1 ρ1 H1 E1 X1 s1 f1 d1 q1 => q1 B G1 ρ1 σ H1 v Dh X1 (E1.sl X S) s1 (L.re E1))
theorem v_forE (h : VA K w t e c fun u c1 => VFA K w (wE K) u e c1 g ts D) : VS K w (tFor (iEnum K t) g ts) e c D := by
  intro B G ρ σ H Dh X S L
  exact rd_forE (h B G ρ σ H _ X S fun u v c1 G1 ρ1 H1 E1 X1 s1 f1 d1 q1 => q1 B G1 ρ1 σ H1 v Dh X1 (E1.sl X S) s1 (L.re E1))
theorem v_forZ (h : VA K w t e c fun u c1 => VFA K w (wZ K) u e c1 g ts D) : VS K w (tFor (iZip K t) g ts) e c D := by
  intro B G ρ σ H Dh X S L
  exact rd_forZ (h B G ρ σ H _ X S fun u v c1 G1 ρ1 H1 E1 X1 s1 f1 d1 q1 => q1 B G1 ρ1 σ H1 v Dh X1 (E1.sl X S) s1 (L.re E1))
section
variable {wf : (It → Hp → Prop) → V → Hp → Prop} {wfA : (It → Hp → Prop) → List V → Hp → Prop} {n : Nat} {item : Nat → PyData → Prop} {keep : Cs → Prop} {ua : List W}
theorem vfor_core {wf' : (It → Hp → Prop) → Hp → Prop} (it : IsIt wf' B G ρ H n item keep) (X : Hx B G ρ c H) (S : Sl K w B G ρ H σ e) (L : Lf K w B G ρ H D Dh)
    (Pv : Nat → Ev → Cs → Prop) (h0 : Pv 0 e c) (hk : ∀ i e' c', Pv i e' c' → keep c')
    (hs : ∀ i d e' c', i < n → item i d → Pv i e' c' → VG K w g (.d d) e' c' fun e2 c2 => VS K w ts e2 c2 (inV' D (Wk c.length (Pv (i + 1)))))
    (hd : ∀ e' c', Pv n e' c' → D.nx e' c') : wf' (Rf g ts Dh σ) H := by
  obtain ⟨J, GG, Y, wk, r, hG, hY⟩ := it
  exact r _ (rf_v wk Pv item X S L h0 (fun i e' c' G' ρ' H' E X' p => hG c' G' ρ' H' E X' (hk i e' c' p)) (fun i x e' c' G' ρ' H' H'' E X' p hi y => hY i x c' G' ρ' H' H'' E X' (hk i e' c' p) hi y) hs hd)
theorem vfor (it : ItU K w wf u c n item keep) (Pv : Nat → Ev → Cs → Prop) (h0 : Pv 0 e c) (hk : ∀ i e' c', Pv i e' c' → keep c')
    (hs : ∀ i d e' c', i < n → item i d → Pv i e' c' → VG K w g (.d d) e' c' fun e2 c2 => VS K w ts e2 c2 (inV' D (Wk c.length (Pv (i + 1)))))
    (hd : ∀ e' c', Pv n e' c' → D.nx e' c') : VFU K w wf u e c g ts D :=
  fun B G ρ σ H v Dh X S s L => vfor_core (it B G ρ H v X s) X S L Pv h0 hk hs hd
theorem vforA (it : ItA K w wfA ua c n item keep) (Pv : Nat → Ev → Cs → Prop) (h0 : Pv 0 e c) (hk : ∀ i e' c', Pv i e' c' → keep c')
    (hs : ∀ i d e' c', i < n → item i d → Pv i e' c' → VG K w g (.d d) e' c' fun e2 c2 => VS K w ts e2 c2 (inV' D (Wk c.length (Pv (i + 1)))))
    (hd : ∀ e' c', Pv n e' c' → D.nx e' c') : VFA K w wfA ua e c g ts D :=
  fun B G ρ σ H v Dh X S s L => vfor_core (it B G ρ H v X s) X S L Pv h0 hk hs hd
def VLU (K : PySem.W.Frag) (w : World) (wf : (It → Hp → Prop) → V → Hp → Prop) (u : W) (e : Ev) (c : Cs) (g : TG) (tt : TT) (te : TE) (ws : List Nat) (Q : W → Cs → Prop) : Prop :=
  ∀ B G0 ρ0 H0 G ρ σ H v T, Ext G0 ρ0 H0 G ρ H → Hx B G ρ c H → Sl K w B G ρ H σ e → Sh K w B G ρ H v u → Kt K w B G0 ρ0 H0 Q T → wf (Rl g tt te ws σ T) v H
def VLA (K : PySem.W.Frag) (w : World) (wf : (It → Hp → Prop) → List V → Hp → Prop) (us : List W) (e : Ev) (c : Cs) (g : TG) (tt : TT) (te : TE) (ws : List Nat) (Q : W → Cs → Prop) : Prop :=
  ∀ B G0 ρ0 H0 G ρ σ H vs T, Ext G0 ρ0 H0 G ρ H → Hx B G ρ c H → Sl K w B G ρ H σ e → Paired (Sh K w B G ρ H) vs us → Kt K w B G0 ρ0 H0 Q T → wf (Rl g tt te ws σ T) vs H
theorem v_lcU (h : VE K w te1 e c fun u c1 => VLU K w (wU K) u e c1 g tt te ws Q) : VE K w (tLc (iU K te1) g tt te ws) e c Q := by
  intro B G ρ σ H T X S k
  exact rd_lcU (h B G ρ σ H _ X S fun u v c1 G1 ρ1 H1 E1 X1 s1 f1 q1 => q1 B G ρ H G1 ρ1 σ H1 v T E1 X1 (E1.sl X S) s1 k)
theorem v_lc1 (h : VA K w t e c fun u c1 => VLA K w wR1 u e c1 g tt te ws Q) : VE K w (tLc (iRng1 t) g tt te ws) e c Q := by
  intro B G ρ σ H T X S k
  exact rd_lc1 (h B G ρ σ H _ X S fun u v c1 G1 ρ1 H1 E1 X1 s1 f1 d1 q1 => q1 B G ρ H G1 ρ1 σ H1 v T E1 X1 (E1.sl X S) s1 k)
theorem vco_core {T : VK} {wf' : (It → Hp → Prop) → Hp → Prop} (it : IsIt wf' B G ρ H n item keep) (EB : Ext G0 ρ0 H0 G ρ H) (X : Hx B G ρ c H) (S : Sl K w B G ρ H σ e) (kt : Kt K w B G0 ρ0 H0 Q T)
    (on : GOn ws g) (hz : n < sizeLine) (Pv : Nat → List PyData → Cs → Prop) (h0 : Pv 0 [] c) (hk : ∀ i acc c', Pv i acc c' → keep c')
    (hs : ∀ i d acc c', i < n → acc.length ≤ i → item i d → Pv i acc c' → VTurn K w g tt te ws e c' d (fun z c4 => Pv (i + 1) (acc ++ [z]) c4) (fun c3 => Pv (i + 1) acc c3))
    (hd : ∀ acc c', Pv n acc c' → Q (.o acc) c') : wf' (Rl g tt te ws σ T) H := by
  obtain ⟨J, GG, Y, wk, r, hG, hY⟩ := it
  exact r _ (rl_v wk Pv item EB X S kt on hz h0 (fun i e' c' G' ρ' H' E X' p => hG c' G' ρ' H' E X' (hk i e' c' p)) (fun i x e' c' G' ρ' H' H'' E X' p hi y => hY i x c' G' ρ' H' H'' E X' (hk i e' c' p) hi y) hs hd)
theorem vcoA (it : ItA K w wfA ua c n item keep) (on : GOn ws g) (hz : n < sizeLine) (Pv : Nat → List PyData → Cs → Prop) (h0 : Pv 0 [] c) (hk : ∀ i acc c', Pv i acc c' → keep c')
    (hs : ∀ i d acc c', i < n → acc.length ≤ i → item i d → Pv i acc c' → VTurn K w g tt te ws e c' d (fun z c4 => Pv (i + 1) (acc ++ [z]) c4) (fun c3 => Pv (i + 1) acc c3))
    (hd : ∀ acc c', Pv n acc c' → Q (.o acc) c') : VLA K w wfA ua e c g tt te ws Q :=
  fun B G0 ρ0 H0 G ρ σ H v T E X S s kt => vco_core (it B G ρ H v X s) E X S kt on hz Pv h0 hk hs hd
/-- the turn's outcome: kept with z, or left out -/
def PTurn (K : PySem.W.Frag) (w : World) (g : TG) (tt : TT) (te : TE) (ws : List Nat) (e : Ev) (c : Cs) (d : PyData) (r : Option PyData) : Prop :=
  VTurn K w g tt te ws e c d (fun z c4 => r = some z ∧ c4 = c) (fun c4 => r = none ∧ c4 = c)
theorem VTurn.mono {d : PyData} {yes yes' : PyData → Cs → Prop} {no no' : Cs → Prop} (h : VTurn K w g tt te ws e c d yes no) (hy : ∀ z c4, yes z c4 → yes' z c4) (hn : ∀ c4, no c4 → no' c4) : VTurn K w g tt te ws e c d yes' no' := by
  intro B G0 ρ0 H0 G ρ σ H v Ph E X S s f k
  refine h B G0 ρ0 H0 G ρ σ H v Ph E X S s f fun e' c' σ' G' ρ' H' E' st X' S' q => k e' c' σ' G' ρ' H' E' st X' S' ?_
  intro B G ρ σ H T X S k
  refine q B G ρ σ H T X S fun b c' G' ρ' H' E X q => k b c' G' ρ' H' E X ?_
  cases b with
  | false => rw [if_neg (by decide)] at *; exact hn _ q
  | true =>
    rw [if_pos rfl] at *
    intro B G ρ σ H T X S k
    exact q B G ρ σ H T X S fun u v c' G' ρ' H' E X s f ⟨z, h1, h2⟩ => k u v c' G' ρ' H' E X s f ⟨z, h1, hy _ _ h2⟩
theorem vcoF_core {T : VK} {wf' : (It → Hp → Prop) → Hp → Prop} {α : Type} (ys : List α) (m : α → PyData) (f : α → Option PyData) (it : IsIt wf' B G ρ H n item keep) (hn : n = ys.length) (hi : ∀ i d, i < n → item i d → ∃ y, ys[i]? = some y ∧ d = m y)
    (EB : Ext G0 ρ0 H0 G ρ H) (X : Hx B G ρ c H) (S : Sl K w B G ρ H σ e) (kt : Kt K w B G0 ρ0 H0 Q T) (hk : keep c)
    (on : GOn ws g) (hz : ys.length < sizeLine) (hs : ∀ y ∈ ys, PTurn K w g tt te ws e c (m y) (f y)) (q : Q (.o (ys.filterMap f)) c) : wf' (Rl g tt te ws σ T) H := by
  refine vco_core it EB X S kt on (by omega) (fun i acc c' => c' = c ∧ acc = (ys.take i).filterMap f) ⟨rfl, rfl⟩ (fun i acc c' h => by rw [h.1]; exact hk) ?_ ?_
  · rintro i d acc c' hin hl hd ⟨rfl, rfl⟩
    obtain ⟨y, hy, rfl⟩ := hi i d hin hd
    have st : (ys.take (i + 1)).filterMap f = (ys.take i).filterMap f ++ (f y).toList := by
      rw [List.take_add_one, hy, Option.toList_some, List.filterMap_append]
      congr 1
    refine (hs y (List.mem_of_getElem? hy)).mono (fun z c4 ⟨h1, h2⟩ => ⟨h2, ?_⟩) fun c4 ⟨h1, h2⟩ => ⟨h2, ?_⟩
    · rw [st, h1]
      rfl
    · rw [st, h1]
      simp
  · rintro acc c' ⟨rfl, rfl⟩
    rw [hn, List.take_length]
    exact q
theorem vcoF {α : Type} (ys : List α) (m : α → PyData) (f : α → Option PyData) (it : ItU K w wf u c n item keep) (hn : n = ys.length) (hi : ∀ i d, i < n → item i d → ∃ y, ys[i]? = some y ∧ d = m y) (hk : keep c)
    (on : GOn ws g) (hz : ys.length < sizeLine) (hs : ∀ y ∈ ys, PTurn K w g tt te ws e c (m y) (f y)) (q : Q (.o (ys.filterMap f)) c) : VLU K w wf u e c g tt te ws Q :=
  fun B G0 ρ0 H0 G ρ σ H v T E X S s kt => vcoF_core ys m f (it B G ρ H v X s) hn hi E X S kt hk on hz hs q
theorem vcoFA {α : Type} (ys : List α) (m : α → PyData) (f : α → Option PyData) (it : ItA K w wfA ua c n item keep) (hn : n = ys.length) (hi : ∀ i d, i < n → item i d → ∃ y, ys[i]? = some y ∧ d = m y) (hk : keep c)
    (on : GOn ws g) (hz : ys.length < sizeLine) (hs : ∀ y ∈ ys, PTurn K w g tt te ws e c (m y) (f y)) (q : Q (.o (ys.filterMap f)) c) : VLA K w wfA ua e c g tt te ws Q :=
  fun B G0 ρ0 H0 G ρ σ H v T E X S s kt => vcoF_core ys m f (it B G ρ H v X s) hn hi E X S kt hk on hz hs q
end
theorem itl_map {α : Type} {m : α → PyData} {ys : List α} {n : Nat} : ∀ i d, i < n → (ys.map m)[i]? = some d → ∃ y, ys[i]? = some y ∧ d = m y := fun i d _ h => by
  rw [List.getElem?_map] at h
  obtain ⟨y, h1, h2⟩ := Option.map_eq_some_iff.mp h
  exact ⟨y, h1, h2.symm⟩
/-- over a list -/
theorem vco_l {α : Type} {ys : List α} {m : α → PyData} (f : α → Option PyData) (h : Lv c u (ys.map m)) (on : GOn ws g) (hz : ys.length < sizeLine) (hs : ∀ y ∈ ys, PTurn K w g tt te ws e c (m y) (f y)) (q : Q (.o (ys.filterMap f)) c) : VLU K w (wU K) u e c g tt te ws Q :=
  vcoF ys m f (it_l h) (by simp) itl_map h on hz hs q
/-- over a text -/
theorem vco_s {z : Str} (f : Nat → Option PyData) (on : GOn ws g) (hz : z.length < sizeLine) (hs : ∀ a ∈ tl z, PTurn K w g tt te ws e c (.str ⟨#[a]⟩) (f a)) (q : Q (.o ((tl z).filterMap f)) c) : VLU K w (wU K) (.d (.str z)) e c g tt te ws Q :=
  vcoF (tl z) (fun a => .str ⟨#[a]⟩) f it_s (by simp [tl]) (fun i d _ h => h) trivial on (by rw [← TL.len_tl]; exact hz) hs q
end
end Gd
namespace Gd
open PySem PySem.Spec PyProof.Rows L2
abbrev SpV := List W → Cs → (W → Cs → Prop) → Prop
/-- a def's promise, of values -/
def lift (K : PySem.W.Frag) (w : World) (sp : SpV) : Sp := fun vs H T _ => ∃ B G ρ c us Q, Hx B G ρ c H ∧ Paired (Sh K w B G ρ H) vs us ∧ (∀ u ∈ us, u.noO = true) ∧
  sp us c Q ∧ ∀ u c', Q u c' → ∀ v G' H', Ext G ρ H G' ρ H' → Hx B G' ρ c' H' → Sh K w B G' ρ H' v u → Fr H v u → T v H'
section
variable {K : PySem.W.Frag} {w : World} {B G G' G'' G0 : Addr → Prop} {ρ ρ' ρ'' ρ0 : List Addr} {H H' H'' H0 : Hp} {c c' : Cs} {σ : L2.St} {e e' : Ev} {v vx vy : V} {u u2 x y : W}
variable {Q : W → Cs → Prop} {ta tb tc te te1 to ti : TE} {t tk : TA} {D : DV} {sp : SpV}
/-- a value passed on to be read -/
def tr0 (c : Cs) : W → Option W
  | .d (.list xs) => some (.b xs)
  | .d x => some (.d x)
  | .o xs => some (.b xs)
  | .b xs => some (.b xs)
  | .s xs => some (.s xs)
  | .c k => match c[k]? with
    | some (.l xs) => some (.b xs)
    | _ => none
  | .ty n => some (.ty n)
  | .x a => some (.x a)
  | .dm kvs => some (.dm kvs)
  | _ => none
def trs (c : Cs) : List W → Option (List W)
  | [] => some []
  | u :: us => (tr0 c u).bind fun d => (trs c us).map fun ds => d :: ds
/-- all that is there may be read by the one called, but its own cells -/
def Bc (H : Hp) (ρk : List Addr) : Addr → Prop := fun p => H p ≠ none ∧ p ∉ ρk
theorem tr0_sh {ρk : List Addr} {u' : W} (X : Hx B G ρ c H) (sub : ∀ p ∈ ρk, p ∈ ρ) (s : Sh K w B G ρ H v u) (h : tr0 c u = some u') (ok : ∀ k p, u = .c k → ρ[k]? = some p → p ∉ ρk) : Sh K w (Bc H ρk) G ρk H v u' ∧ u'.noO = true := by
  cases s with
  | @d _ x q =>
    cases x with
    | list xs =>
      cases h
      cases q with
      | lst n h r => exact ⟨.b h r ⟨by rw [h]; simp, fun z => X.av _ (sub _ z) n⟩, rfl⟩
    | none => cases h; exact ⟨.d q, rfl⟩
    | bool b => cases h; exact ⟨.d q, rfl⟩
    | int i => cases h; exact ⟨.d q, rfl⟩
    | str i => cases h; exact ⟨.d q, rfl⟩
    | tuple i => cases h; exact ⟨.d q, rfl⟩
    | dict i => cases h; exact ⟨.d q, rfl⟩
  | o a r g b n => cases h; exact ⟨.b a r ⟨by rw [a]; simp, fun z => n (sub _ z)⟩, rfl⟩
  | od _ _ _ _ _ => cases h
  | b a r n => cases h; exact ⟨.b a r ⟨by rw [a]; simp, fun z => X.avb _ (sub _ z) n⟩, rfl⟩
  | s q =>
    cases h
    refine ⟨.s ?_, rfl⟩
    rcases q with ⟨q, n⟩ | q
    · refine .inl ⟨q, ?_, fun z => X.avb _ (sub _ z) n⟩
      rcases q with q | ⟨o, q⟩ <;> rw [q] <;> simp
    · exact .inr q
  | @c p k a =>
    have h : (match c[k]? with | some (.l xs) => some (W.b xs) | _ => none) = some u' := h
    split at h
    · rename_i xs e
      · cases h
        obtain ⟨p', hp, r⟩ := paired_get X.cells e
        rw [a] at hp
        cases hp
        cases r with
        | l h r => exact ⟨.b h r ⟨by rw [h]; simp, ok k p rfl a⟩, rfl⟩
    · cases h
  | ty => cases h; exact ⟨.ty, rfl⟩
  | tt _ _ => cases h
  | set _ _ => cases h
  | x => cases h; exact ⟨.x, rfl⟩
  | dm a r g => cases h; exact ⟨.dm a r g, rfl⟩
  | lc _ _ _ => cases h
theorem trs_sh {ρk : List Addr} (X : Hx B G ρ c H) (sub : ∀ p ∈ ρk, p ∈ ρ) {vs : List V} {us us' : List W} (s : Paired (Sh K w B G ρ H) vs us) (h : trs c us = some us') (ok : ∀ u ∈ us, ∀ k p, u = .c k → ρ[k]? = some p → p ∉ ρk) :
    Paired (Sh K w (Bc H ρk) G ρk H) vs us' ∧ ∀ u ∈ us', u.noO = true := by
  induction s generalizing us' with
  | nil => cases h; exact ⟨.nil, by simp⟩
  | cons a t ih =>
    unfold trs at h
    obtain ⟨d, h1, h2⟩ := Option.bind_eq_some_iff.mp h
    obtain ⟨ds, h3, rfl⟩ := Option.map_eq_some_iff.mp h2
    obtain ⟨s1, n1⟩ := tr0_sh X sub a h1 (ok _ (by simp))
    obtain ⟨s2, n2⟩ := ih h3 fun u hu => ok u (by simp [hu])
    refine ⟨.cons s1 s2, fun u hu => ?_⟩
    rcases List.mem_cons.mp hu with e | hu
    · rw [e]; exact n1
    · exact n2 u hu
/-- back from a call that had the cells at ρk -/
theorem back {ρk : List Addr} {ck c1 : Cs} (X : Hx B G ρ c H) (sub : ∀ p ∈ ρk, p ∈ ρ) (E : Ext G ρk H G' ρk H') (Xk : Hx (Bc H ρk) G' ρk ck H')
    (cells : ∀ {R : Addr → Cell → Prop}, Paired R ρk ck → (∀ p x, p ∈ ρ → p ∉ ρk → CellOk G H p x → R p x) → Paired R ρ c1) : Ext G ρ H G' ρ H' ∧ Hx B G' ρ c1 H' := by
  have keep : ∀ b o, H b = some o → b ∉ ρk → H' b = some o := fun b o e n => E.kp b o e n
  refine ⟨⟨fun b o e n => keep b o e fun z => n (sub b z), E.tr, ⟨[], by simp, by simp⟩, E.gr, E.nw⟩, ⟨X.nd, fun p hp g => ?_, X.avb, Xk.live, fun p b => E.tr p (X.liveb p b), ?_⟩⟩
  · rcases E.nw p g with g | g
    · exact X.av p hp g
    · exact X.trk hp g
  · refine cells Xk.cells fun p x hp n h => ?_
    have e : H' p = H p := by
      cases q : H p with
      | none => exact absurd q h.trk
      | some o => exact keep p o q n
    exact h.mv e (fun b o g e => keep b o e fun z => X.av b (sub b z) g) E.gr
theorem cells0 {R : Addr → Cell → Prop} {ρ : List Addr} {c : Cs} (h : Paired (CellOk G H) ρ c) (f : ∀ p x, p ∈ ρ → CellOk G H p x → R p x) : Paired R ρ c := by
  induction h with
  | nil => exact .nil
  | cons a _ ih => exact .cons (f _ _ (by simp) a) (ih fun p x hp => f p x (by simp [hp]))
theorem cells1 {R : Addr → Cell → Prop} {x' : Cell} {p : Addr} : ∀ {ρ : List Addr} {c : Cs} {k : Nat}, ρ.Nodup → Paired (CellOk G H) ρ c → ρ[k]? = some p → R p x' → (∀ q x, q ∈ ρ → q ≠ p → CellOk G H q x → R q x) → Paired R ρ (c.set k x')
  | _, _, k, _, .nil, e, _, _ => by simp at e
  | _, _, 0, nd, .cons a t, e, r, f => by
    have e1 := Option.some.inj e
    have nd2 := List.nodup_cons.mp nd
    subst e1
    exact .cons r (cells0 t fun q x hq h => f q x (by simp [hq]) (fun z => nd2.1 (z ▸ hq)) h)
  | _, _, k + 1, nd, .cons a t, e, r, f => by
    have nd2 := List.nodup_cons.mp nd
    have e2 := by simpa using e
    exact .cons (f _ _ (by simp) (fun z => nd2.1 (z ▸ List.mem_of_getElem? e2)) a) (cells1 nd2.2 t e2 r fun q x hq => f q x (by simp [hq]))
theorem sh_back {ρk : List Addr} {ck c1 : Cs} (X : Hx B G ρ c H) (sub : ∀ p ∈ ρk, p ∈ ρ) (nc : ∀ k, u ≠ .c k) (nb : ∀ xs, u ≠ .b xs) (ns : ∀ xs, u ≠ .s xs) (nl : ∀ ks, u ≠ .lc ks) (s : Sh K w (Bc H ρk) G' ρk H' v u) (f : Fr H v u) : Sh K w B G' ρ H' v u := by
  cases s with
  | d q => exact .d q
  | o a r g b n =>
    obtain ⟨p, e, hp⟩ := f
    cases e
    exact .o a r g (fun z => X.liveb _ z hp) fun z => X.trk z hp
  | b _ _ _ => exact absurd rfl (nb _)
  | s _ => exact absurd rfl (ns _)
  | c _ => exact absurd rfl (nc _)
  | ty => exact .ty
  | tt a g => exact .tt a g
  | set a g => exact .set a g
  | x => exact .x
  | dm a r g => exact .dm a r g
  | od a r g b n =>
    obtain ⟨p, e, hp⟩ := f
    cases e
    exact .od a r g (fun z => X.liveb _ z hp) fun z => X.trk z hp
  | lc _ _ _ => exact absurd rfl (nl _)
/-- what a call may hand back -/
def W.res : W → Bool
  | .d _ | .o _ | .dm _ | .od _ => true
  | _ => false
theorem res_c (h : u.res = true) : (∀ k, u ≠ .c k) ∧ (∀ xs, u ≠ .b xs) ∧ (∀ xs, u ≠ .s xs) ∧ ∀ ks, u ≠ .lc ks :=
  ⟨fun k e => (by rw [e] at h; cases h), fun k e => (by rw [e] at h; cases h), fun k e => (by rw [e] at h; cases h), fun k e => (by rw [e] at h; cases h)⟩
/-- a call without cells -/
theorem lift0 {us us' : List W} {vs : List V} {c1 : Cs} {T : VK} {E0' : XK} (k : Kt K w B G0 ρ0 H0 Q T) (E1 : Ext G0 ρ0 H0 G ρ H) (X1 : Hx B G ρ c1 H) (s1 : Paired (Sh K w B G ρ H) vs us) (hu : trs c1 us = some us')
    (q1 : sp us' [] fun u _ => u.res = true ∧ Q u c1) : lift K w sp vs H T E0' := by
  obtain ⟨s2, n2⟩ := trs_sh (ρk := []) X1 (by simp) s1 hu (by simp)
  have X2 : Hx (Bc H []) G [] [] H := ⟨.nil, by simp, by simp, X1.live, fun p b => b.1, .nil⟩
  refine ⟨_, G, [], [], us', _, X2, s2, n2, q1, ?_⟩
  intro u c' ⟨hr, q⟩ v G' H' E X' s f
  obtain ⟨E2, X3⟩ := back (c1 := c1) X1 (by simp) E X' fun _ f => cells0 X1.cells fun p x hp h => f p x hp (by simp) h
  obtain ⟨r1, r2, r3, r4⟩ := res_c hr
  exact k _ _ _ _ _ _ (E1.trans E2) X3 (sh_back (ρk := []) (ck := c') (c1 := c1) X1 (by simp) r1 r2 r3 r4 s f) (E1.fr f) q
theorem v_call0 {E0' : XK} (h : VA K w t e c fun us c1 => ∃ us', trs c1 us = some us' ∧ sp us' [] fun u _ => u.res = true ∧ Q u c1) : VE K w (tCall (lift K w sp) [] E0' t) e c Q := by
  intro B G ρ σ H T X S k
  refine h B G ρ σ H _ X S fun us vs c1 G1 ρ1 H1 E1 X1 s1 f1 d1 ⟨us', hu, q1⟩ => ?_
  rw [List.append_nil]
  exact lift0 k E1 X1 s1 hu q1
/-- a call that has the cell at k -/
def fstC : List W → Option Nat
  | .c j :: _ => some j
  | _ :: us => fstC us
  | [] => none
def tr1 (c : Cs) (k : Nat) : W → Option W
  | .c j => if j = k then some (.c 0) else tr0 c (.c j)
  | u => tr0 c u
def trs1 (c : Cs) (k : Nat) : List W → Option (List W)
  | [] => some []
  | u :: us => (tr1 c k u).bind fun d => (trs1 c k us).map fun ds => d :: ds
theorem trs1_sh {k : Nat} {p : Addr} (X : Hx B G ρ c H) (hp : ρ[k]? = some p) {vs : List V} {us us' : List W} (s : Paired (Sh K w B G ρ H) vs us) (h : trs1 c k us = some us') :
    Paired (Sh K w (Bc H [p]) G [p] H) vs us' ∧ ∀ u ∈ us', u.noO = true := by
  have hm : p ∈ ρ := List.mem_of_getElem? hp
  have sub : ∀ q ∈ [p], q ∈ ρ := fun q h => by rw [List.mem_singleton.mp h]; exact hm
  have one : ∀ {v : V} {u u' : W}, Sh K w B G ρ H v u → tr1 c k u = some u' → Sh K w (Bc H [p]) G [p] H v u' ∧ u'.noO = true := by
    intro v u u' s h
    by_cases isc : ∃ j, u = .c j
    · obtain ⟨j, rfl⟩ := isc
      have hh : (if j = k then some (W.c 0) else tr0 c (.c j)) = some u' := h
      clear h
      by_cases e : j = k
      · rw [if_pos e] at hh
        have h2 := Option.some.inj hh
        subst e h2
        cases s with
        | c hq =>
          rw [hp] at hq
          cases hq
          exact ⟨.c rfl, rfl⟩
      · rw [if_neg e] at hh
        refine tr0_sh X sub s hh fun i q e' hq => ?_
        cases e'
        intro z
        rw [List.mem_singleton] at z
        subst z
        have l2 := (List.getElem?_eq_some_iff.mp hq).1
        exact e ((List.getElem?_inj l2 X.nd).mp (hq.trans hp.symm))
    · have h2 : tr0 c u = some u' := by
        unfold tr1 at h
        split at h
        · exact absurd ⟨_, rfl⟩ isc
        · exact h
      exact tr0_sh X sub s h2 fun i q e' _ => absurd ⟨i, e'⟩ isc
  induction s generalizing us' with
  | nil => cases h; exact ⟨.nil, by simp⟩
  | cons a t ih =>
    unfold trs1 at h
    obtain ⟨d, h1, h2⟩ := Option.bind_eq_some_iff.mp h
    obtain ⟨ds, h3, rfl⟩ := Option.map_eq_some_iff.mp h2
    obtain ⟨s1, n1⟩ := one a h1
    obtain ⟨s2, n2⟩ := ih h3
    refine ⟨.cons s1 s2, fun u hu => ?_⟩
    rcases List.mem_cons.mp hu with e | hu
    · rw [e]; exact n1
    · exact n2 u hu
theorem lift1 {k : Nat} {x' : Cell} {us us' : List W} {vs : List V} {c1 : Cs} {T : VK} {E0' : XK} (kt : Kt K w B G0 ρ0 H0 Q T) (E1 : Ext G0 ρ0 H0 G ρ H) (X1 : Hx B G ρ c1 H) (s1 : Paired (Sh K w B G ρ H) vs us) (hu : trs1 c1 k us = some us') (hx : c1[k]? = some x')
    (q1 : sp us' [x'] fun u c' => u.res = true ∧ ∀ y, c' = [y] → Q u (c1.set k y)) : lift K w sp vs H T E0' := by
  obtain ⟨p, hp, r⟩ := paired_get X1.cells hx
  have hm : p ∈ ρ := List.mem_of_getElem? hp
  have sub : ∀ q ∈ [p], q ∈ ρ := fun q h => by rw [List.mem_singleton.mp h]; exact hm
  obtain ⟨s2, n2⟩ := trs1_sh X1 hp s1 hu
  have X2 : Hx (Bc H [p]) G [p] [x'] H := ⟨by simp, fun q h => by rw [List.mem_singleton.mp h]; exact X1.av p hm, fun q h z => z.2 h, X1.live, fun q b => b.1, .cons r .nil⟩
  refine ⟨_, G, [p], [x'], _, _, X2, s2, n2, q1, ?_⟩
  intro u c' ⟨hr, q⟩ v G' H' E X' s f
  obtain ⟨y, rfl⟩ : ∃ y, c' = [y] := List.length_eq_one_iff.mp X'.len.symm
  obtain ⟨E2, X3⟩ := back (c1 := c1.set k y) X1 sub E X' fun {R} hR f => by
    cases hR with
    | cons hR _ => exact cells1 X1.nd X1.cells hp hR fun q x hq ne h => f q x hq (by simpa using ne) h
  obtain ⟨r1, r2, r3, r4⟩ := res_c hr
  exact kt _ _ _ _ _ _ (E1.trans E2) X3 (sh_back (ρk := [p]) (ck := [y]) (c1 := c1.set k y) X1 sub r1 r2 r3 r4 s f) (E1.fr f) (q y rfl)
def rtn (n : Nat) (Q : W → Cs → Prop) (u : W) (c' : Cs) : Prop := match u with
  | .c k => if k < n then Q (.c k) (c'.take n) else (∃ xs, c'[k]? = some (.l xs) ∧ Q (.o xs) (c'.take n)) ∨ ∃ kvs, (c'[k]? = some (.fz kvs) ∧ Q (.dm kvs) (c'.take n)) ∨ (c'[k]? = some (.m kvs) ∧ Q (.od kvs) (c'.take n))
  | .dm x => Q (.dm x) (c'.take n)
  | .od x => Q (.od x) (c'.take n)
  | .d x => Q (.d x) (c'.take n)
  | .o x => Q (.o x) (c'.take n)
  | _ => False
def startE (N : List Str) (us : List W) : Ev := us.map some ++ List.replicate (N.length - us.length) none
theorem paired_take {α β : Type} {F : α → β → Prop} : ∀ {xs : List α} {ys : List β} (n : Nat), Paired F xs ys → Paired F (xs.take n) (ys.take n)
  | _, _, 0, _ => .nil
  | _, _, _ + 1, .nil => .nil
  | _, _, n + 1, .cons r t => .cons r (paired_take n t)
theorem kt_rtn {T : VK} (n : Nat) (hn : ρ.length = n) (h : ∀ u c', Q u c' → ∀ v G' H', Ext G ρ H G' ρ H' → Hx B G' ρ c' H' → Sh K w B G' ρ H' v u → Fr H v u → T v H') : Kt K w B G ρ H (rtn n Q) T := by
  intro u v c' G' ρ' H' E X s f q
  obtain ⟨ys, rfl, hy⟩ := E.pre
  have E2 : Ext G ρ H G' ρ H' := ⟨E.kp, E.tr, ⟨[], by simp, by simp⟩, E.gr, E.nw⟩
  have tk : (ρ ++ ys).take n = ρ := by rw [← hn, List.take_left]
  have X2 : Hx B G' ρ (c'.take n) H' := by
    have pt := paired_take n X.cells
    rw [tk] at pt
    exact ⟨(List.nodup_append.mp X.nd).1, fun p hp => X.av p (by simp [hp]), fun p hp => X.avb p (by simp [hp]), X.live, X.liveb, pt⟩
  have nin : ∀ p, p ∉ ρ ++ ys → p ∉ ρ := fun p h z => h (by simp [z])
  cases s with
  | d s => exact h _ _ q _ _ _ E2 X2 (.d s) trivial
  | o a r g b m => exact h _ _ q _ _ _ E2 X2 (.o a r g b (nin _ m)) f
  | dm a r g => exact h _ _ q _ _ _ E2 X2 (.dm a r g) trivial
  | od a r g b m => exact h _ _ q _ _ _ E2 X2 (.od a r g b (nin _ m)) f
  | @c p k a =>
    by_cases hk : k < n
    · have q : (if k < n then Q (.c k) (c'.take n) else _) := q
      rw [if_pos hk] at q
      rw [List.getElem?_append_left (by omega)] at a
      exact h _ _ q _ _ _ E2 X2 (.c a) trivial
    · have q : (if k < n then Q (.c k) (c'.take n) else (∃ xs, c'[k]? = some (.l xs) ∧ Q (.o xs) (c'.take n)) ∨ ∃ kvs, (c'[k]? = some (.fz kvs) ∧ Q (.dm kvs) (c'.take n)) ∨ (c'[k]? = some (.m kvs) ∧ Q (.od kvs) (c'.take n))) := q
      rw [if_neg hk] at q
      rcases q with ⟨xs, hx, q⟩ | ⟨kvs, ⟨hx, q⟩ | ⟨hx, q⟩⟩
      rotate_left
      · obtain ⟨p', hp, r⟩ := paired_get X.cells hx
        rw [a] at hp
        cases hp
        have mys : p ∈ ys := by
          rw [List.getElem?_append_right (by omega)] at a
          exact List.mem_of_getElem? a
        cases r with
        | fz h1 r =>
          have np : p ∉ ρ := fun z => (List.nodup_append.mp X.nd).2.2 p z p mys rfl
          exact h _ _ q _ _ _ (E2.data (hy p mys)) (X2.data (by rw [h1]; simp) np) (.dm h1 (Paired.mono (fun _ _ q => ⟨q.1, q.2.imp fun _ g => .inl g⟩) r) (.inr rfl)) trivial
      · obtain ⟨p', hp, r⟩ := paired_get X.cells hx
        rw [a] at hp
        cases hp
        have m := List.mem_of_getElem? a
        have mys : p ∈ ys := by
          rw [List.getElem?_append_right (by omega)] at a
          exact List.mem_of_getElem? a
        cases r with
        | m h1 r => exact h _ _ q _ _ _ E2 X2 (.od h1 r (X.av _ m) (X.avb _ m) fun z => (List.nodup_append.mp X.nd).2.2 p z p mys rfl) ⟨p, rfl, hy p mys⟩
      obtain ⟨p', hp, r⟩ := paired_get X.cells hx
      rw [a] at hp
      cases hp
      have m := List.mem_of_getElem? a
      have mys : p ∈ ys := by
        rw [List.getElem?_append_right (by omega)] at a
        exact List.mem_of_getElem? a
      cases r with
      | l h1 r => exact h _ _ q _ _ _ E2 X2 (.o h1 r (X.av _ m) (X.avb _ m) fun z => (List.nodup_append.mp X.nd).2.2 p z p mys rfl) ⟨p, rfl, hy p mys⟩
  | _ => exact q.elim
theorem sl_start {N : List Str} {vs : List V} {us : List W} (s : Paired (Sh K w B G ρ H) vs us) (n : ∀ u ∈ us, u.noO = true) : Sl K w B G ρ H (L2.start N vs) (startE N us) := by
  unfold L2.start startE
  rw [Paired.length s]
  refine paired_app ?_ ?_
  · induction s with
    | nil => exact .nil
    | cons a t ih => exact .cons ⟨n _ (by simp), _, rfl, a⟩ (ih fun u hu => n u (by simp [hu]))
  · generalize N.length - us.length = m
    induction m with
    | zero => exact .nil
    | succ m ih => exact .cons trivial ih
end
section
variable {P : Program} {w : World} {K : PySem.W.Frag} {mg : Str → Option Value} {base : Heap} {k : Nat} {f : Addr} {fd : FuncData} {ps N : List Str} {sp : SpV}
theorem GFn.v {x qual : Str} {st : Stmt} (F : Fun K x qual st f fd) (S : FnScope N ps (defScope st))
    (len : ∀ us c Q, sp us c Q → us.length = ps.length)
    (body : ∀ (cdv : Value) (A : Around) (outer : List Env) (s : Shared) (H : Hp) (E : XK) (us : List W) (c : Cs) (Q : W → Cs → Prop),
      A.guards = some [] → Room k (A.deeper (envOfC qual (defScope st) s.heap.objs.size f cdv)) → sp us c Q →
      ∃ t, PSs (cxOf CX0 P w K mg base N qual (defScope st) f cdv A outer s H E).nox (defBody st) t ∧
        VS K w t (startE N us) c { nx := fun _ c' => rtn c.length Q (.d .none) c', rt := rtn c.length Q }) :
    GFn P w K mg base CX0 (k + 1) f fd ps (lift K w sp) := by
  refine GFn.mk' F S (fun vs H Q E h => ?_) (fun cdv A outer s H vs T E gd hr h => ?_)
  · obtain ⟨B, G, ρ, c, us, Q, X, sh, no, h, _⟩ := h
    rw [Paired.length sh]
    exact len us c Q h
  · obtain ⟨B, G, ρ, c, us, Q, X, sh, no, h, fin⟩ := h
    obtain ⟨t, h1, h2⟩ := body cdv A outer s H E us c Q gd hr h
    have kt := kt_rtn c.length X.len fin
    refine ⟨t, h1, h2 B G ρ (L2.start N vs) H _ X (sl_start sh no) ⟨fun e' c' σ' G' ρ' H' E' X' S' q => ?_, kt, fun _ _ _ _ _ _ _ _ _ q => q, fun _ _ _ _ _ _ _ _ _ q => q, fun _ _ _ _ _ _ _ _ _ _ _ _ _ q => q.elim⟩⟩
    exact kt _ _ _ _ _ _ E' X' (.d .non) trivial q
/-- what a law's def promises -/
def lawV : SpV := fun us c Q => ∃ ns : List Int, us = [.s (ns.map .int)] ∧ c = [] ∧ ns.length ≤ 63 ∧ (∀ z ∈ ns, Builtin.Int.intBits z ≤ 1048576) ∧ Q (.d (.bool true)) []
theorem law_start {H : Hp} {a : Addr} {ns : List Int} {E : XK} (hl : ns.length ≤ 63) (hb : ∀ z ∈ ns, Builtin.Int.intBits z ≤ 1048576) (hS : SqL K H a (ns.map V.int)) :
    lift K w lawV [.ref a] H (fun v _ => v = .bl true) E := by
  refine ⟨fun p => H p ≠ none, fun _ => False, [], [], [.s (ns.map .int)], fun u _ => u = .d (.bool true), ⟨.nil, by simp, by simp, fun _ h => h.elim, fun _ h => h, .nil⟩, .cons (.s ?_) .nil, by simp [W.noO], ⟨ns, rfl, rfl, hl, hb, rfl⟩, ?_⟩
  · rcases hS with h | h
    · refine .inl ⟨h, ?_⟩
      rcases h with h | ⟨o, h⟩ <;> rw [h] <;> simp
    · exact .inr h
  · intro u c' hu v G' H' _ _ s _
    subst hu
    cases s with
    | d q => exact dq_bl q
end
end Gd
namespace Gd
open PySem PySem.Spec PyProof.Rows L2
/-- a name that a new list comes to as a cell -/
def gNameC (i : Nat) : TG := gName i
def tParB (b1 b2 : Bool) (i j : Nat) (t : TA) : TS := tPar i j t
def tPar3B (b1 b2 b3 : Bool) (i j k : Nat) (t : TA) : TS := tPar3 i j k t
/-- a def that is passed its cells; one that is passed none -/
def liftC (K : PySem.W.Frag) (w : World) (sp : SpV) : Sp := lift K w sp
section
variable {X : Cx} {st : Stmt} {te : TE} {i j k : Nat} {t : TA} {tg : Expr} {b1 b2 b3 : Bool}
theorem PS.as_c (h : PS X st (tAsg te (gName i))) : PS X st (tAsg te (gNameC i)) := h
theorem PS.as_p (b1 b2 : Bool) (h : PS X st (tPar i j t)) : PS X st (tParB b1 b2 i j t) := h
theorem PS.as_p3 (b1 b2 b3 : Bool) (h : PS X st (tPar3 i j k t)) : PS X st (tPar3B b1 b2 b3 i j k t) := h
end
section
variable {K : PySem.W.Frag} {w : World} {c c' : Cs} {e e' : Ev} {u x y : W}
variable {Q : W → Cs → Prop} {QB : Bool → Cs → Prop} {P : Ev → Cs → Prop} {ta tb tc te te1 to ti : TE} {t tk : TA} {D : DV} {sp : SpV} {i j k : Nat} {b1 b2 b3 : Bool}
theorem v_gC {xs : List PyData} (q : P (e.set i (some (.c c.length))) (c ++ [.l xs])) : VG K w (gNameC i) (.o xs) e c P := v_gnameC q
theorem v_parB (h : VA K w t e c fun us c1 => ∃ x y, us = [x, y] ∧ D.nx (bind1 b2 j y (bind1 b1 i x (e, c1))).1 (bind1 b2 j y (bind1 b1 i x (e, c1))).2) : VS K w (tParB b1 b2 i j t) e c D := v_par b1 b2 h
theorem v_par3B (h : VA K w t e c fun us c1 => ∃ x y z, us = [x, y, z] ∧ D.nx (bind1 b3 k z (bind1 b2 j y (bind1 b1 i x (e, c1)))).1 (bind1 b3 k z (bind1 b2 j y (bind1 b1 i x (e, c1)))).2) : VS K w (tPar3B b1 b2 b3 i j k t) e c D := v_par3 b1 b2 b3 h
theorem tr_2 {P : W → W → Prop} {a b : W} (q : P a b) : ∃ x y, [a, b] = [x, y] ∧ P x y := ⟨a, b, rfl, q⟩
theorem tr_3 {P : W → W → W → Prop} {a b d : W} (q : P a b d) : ∃ x y z, [a, b, d] = [x, y, z] ∧ P x y z := ⟨a, b, d, rfl, q⟩
theorem v_nx {n : Ev → Cs → Prop} {r : W → Cs → Prop} {b k : Ev → Cs → Prop} {x : Addr → Option (Str × PyData) → Ev → Cs → Prop} {w : WX} (q : n e c) : DV.nx ⟨n, r, b, k, x, w⟩ e c := q
theorem v_rt {n : Ev → Cs → Prop} {r : W → Cs → Prop} {b k : Ev → Cs → Prop} {x : Addr → Option (Str × PyData) → Ev → Cs → Prop} {w : WX} (q : r u c) : DV.rt ⟨n, r, b, k, x, w⟩ u c := q
theorem rtn_d {n : Nat} {z : PyData} (q : Q (.d z) (c.take n)) : rtn n Q (.d z) c := q
theorem rtn_o {n : Nat} {z : List PyData} (q : Q (.o z) (c.take n)) : rtn n Q (.o z) c := q
theorem rtn_c {n k : Nat} {xs : List PyData} (h : n ≤ k) (hx : c[k]? = some (.l xs)) (q : Q (.o xs) (c.take n)) : rtn n Q (.c k) c := by
  show if k < n then _ else _
  rw [if_neg (by omega)]
  exact .inl ⟨xs, hx, q⟩
theorem res_d {z : PyData} {R : Prop} (q : R) : W.res (.d z) = true ∧ R := ⟨rfl, q⟩
theorem res_o {z : List PyData} {R : Prop} (q : R) : W.res (.o z) = true ∧ R := ⟨rfl, q⟩
theorem b_c {z : Bool} {P : Bool → Prop} (q : P z) : ∃ k, W.d (.bool z) = .d (.bool k) ∧ P k := ⟨z, rfl, q⟩
theorem i_c {z : Int} {P : Int → Prop} (q : P z) : ∃ k, W.d (.int z) = .d (.int k) ∧ P k := ⟨z, rfl, q⟩
theorem s_c {z : Str} {R : Prop} (q : R) : (∃ a, W.d (.str z) = .d (.str a)) ∧ R := ⟨⟨z, rfl⟩, q⟩
theorem t_bl {z : Bool} {P : Bool → Prop} (q : P z) : ∃ k, Tv c (.d (.bool z)) k ∧ P k := ⟨z, .bl z, q⟩
theorem l_c {us : List W} {xs : List PyData} {P : List PyData → Prop} (h : dats us = some xs) (hz : us.length ≤ sizeLine) (q : P xs) : ∃ xs, dats us = some xs ∧ us.length ≤ sizeLine ∧ P xs := ⟨xs, h, hz, q⟩
theorem z_d {x : PyData} {P : PyData → Prop} (q : P x) : ∃ z, dat1 (.d x) = some z ∧ P z := ⟨_, rfl, q⟩
theorem ty_lw {xs : List PyData} {R : Prop} (h : Lv c u xs) (q : R) : Tyw c "list" u ∧ R := ⟨.lst h, q⟩
theorem c0_c {us us' : List W} {P : List W → Prop} (h : trs c us = some us') (q : P us') : ∃ us', trs c us = some us' ∧ P us' := ⟨us', h, q⟩
theorem v_pturn {g : TG} {tt : TT} {ws : List Nat} {d : PyData} {r : Option PyData} (q : VTurn K w g tt te ws e c d (fun z c4 => r = some z ∧ c4 = c) (fun c4 => r = none ∧ c4 = c)) : PTurn K w g tt te ws e c d r := q
theorem v_turn {g : TG} {tt : TT} {ws : List Nat} {d : PyData} {yes : PyData → Cs → Prop} {no : Cs → Prop} (q : VG K w g (.d d) (wipeE e ws) c fun e2 c2 => VT K w tt e2 c2 fun b c3 => if b = true then VE K w te e2 c3 fun y c4 => ∃ z, dat1 y = some z ∧ yes z c4 else no c3) : VTurn K w g tt te ws e c d yes no := q
theorem set_c {a : Cell} {P : Cell → Prop} (q : P a) : ∀ y, [a] = [y] → P y := fun y h => by cases h; exact q
end
end Gd
namespace Gd
open PySem PySem.Spec PyProof.Rows L2
def low (c : Nat) : Bool := decide (97 ≤ c ∧ c ≤ 122)
def isT (s : Str) : Bool := decide (s.length ≤ 12) && (tl s).all low
def isW (s : Str) : Bool := isT s && decide (0 < s.length)
theorem tl_letters : tl ("abcdefghijklmnopqrstuvwxyz" : Str) = List.range' 97 26 := by decide +kernel
theorem in_letters (c : Nat) : decide (c ∈ tl ("abcdefghijklmnopqrstuvwxyz" : Str)) = low c := by
  rw [tl_letters]
  unfold low
  rw [decide_eq_decide]
  rw [List.mem_range'_1]
  omega
theorem sz100k {n : Nat} (h : n ≤ 100000) : n < sizeLine := by
  rw [sizeLine_eq]
  omega
theorem strOk_w {s : Str} (h : isW s = true) : PyData.strOk s = true := by
  simp only [isW, isT, Bool.and_eq_true, decide_eq_true_eq, List.all_eq_true] at h
  refine (strOk_iff s).mpr fun c hc => ?_
  have := h.1.2 c hc
  simp only [low, decide_eq_true_eq] at this
  omega
def okW (s : Str) : Prop := 1 ≤ s.length ∧ s.length ≤ 12 ∧ ∀ c ∈ tl s, 97 ≤ c ∧ c ≤ 122
def fits (x o : Str) : Bool := !(Txt.startswith o x || Txt.startswith x o)
structure Bk (ws : List Str) (n : Nat) : Prop where
  len : ws.length ≤ n
  ok : ∀ w ∈ ws, okW w
  ap : ws.Pairwise fun o x => fits x o = true
def sug (ws : List Str) (x : Str) : Option Str := ws.reverse.find? fun o => Txt.startswith o x
def cutT (x : Str) (l : Nat) : Str := cutS x none (some (l : Int))
def typ (ws : List Str) (x : Str) : Option Nat := (List.range x.length).find? fun l => sug ws (cutT x l) == some x
def typed (ws : List Str) (x : Str) : Str := match typ ws x with
  | some l => cutT x l
  | none => x
theorem isW_len {x : Str} (h : isW x = true) : x.length ≤ 12 := by
  simp only [isW, isT, Bool.and_eq_true, decide_eq_true_eq] at h
  exact h.1.1
theorem sw_take (o x : Str) : Txt.startswith o x = decide (cutT o x.length = x) := by
  have e : tl (cutT o x.length) = (tl o).take x.length := by
    unfold cutT
    rw [cut_to _ (by omega), Int.toNat_natCast]
  rw [Bool.eq_iff_iff, decide_eq_true_eq]
  unfold Txt.startswith
  rw [StrLaws.subAt_eq, List.drop_zero, Bool.and_eq_true, decide_eq_true_eq, beq_iff_eq]
  constructor
  · rintro ⟨_, h⟩
    exact TL.ext_tl (e.trans h)
  · intro h
    have h2 : (tl o).take x.length = tl x := by rw [← e, h]
    refine ⟨?_, h2⟩
    have := congrArg List.length h2
    rw [List.length_take, ← TL.len_tl, ← TL.len_tl] at this
    omega
theorem cutT_len {x : Str} {l : Nat} (h : l ≤ x.length) : (cutT x l).length = l := by
  rw [TL.len_tl]
  unfold cutT
  show (tl _).length = l
  rw [cut_to _ (by omega), List.length_take, ← TL.len_tl]
  omega
theorem okW_isW {s : Str} (h : okW s) : isW s = true := by
  simp only [isW, isT, Bool.and_eq_true, decide_eq_true_eq, List.all_eq_true]
  exact ⟨⟨h.2.1, fun c hc => by simp only [low, decide_eq_true_eq]; exact h.2.2 c hc⟩, h.1⟩
theorem pw_all {α : Type} {R : α → α → Prop} (sy : ∀ x y, R x y → R y x) : ∀ {l : List α}, l.Pairwise R → ∀ x ∈ l, ∀ y ∈ l, x ≠ y → R x y
  | [], _, x, hx, _, _, _ => by cases hx
  | a :: l, p, x, hx, y, hy, n => by
    obtain ⟨h1, h2⟩ := List.pairwise_cons.mp p
    rcases List.mem_cons.mp hx with e1 | hx
    · rcases List.mem_cons.mp hy with e2 | hy
      · exact absurd (e1.trans e2.symm) n
      · rw [e1]
        exact h1 y hy
    · rcases List.mem_cons.mp hy with e2 | hy
      · rw [e2]
        exact sy _ _ (h1 x hx)
      · exact pw_all sy h2 x hx y hy n
theorem nc_fits {ws : List Str} (h : ws.Pairwise fun o x => fits x o = true) : NC ws := by
  have key := pw_all (R := fun x y => Txt.startswith y x = false ∧ Txt.startswith x y = false) (fun x y h => h.symm) (h.imp fun {o x} h => by
    simp only [fits, Bool.not_eq_true', Bool.or_eq_false_iff] at h
    exact ⟨h.2, h.1⟩)
  exact fun x hx y hy e => (key x hx y hy e).1
theorem Bk.nodup {ws : List Str} {n : Nat} (B : Bk ws n) : ws.Nodup := by
  refine B.ap.imp fun {o x} h e => ?_
  subst e
  simp [fits, Txt.startswith, Builtin.Str.subAt, Str.length] at h
theorem strChars {s : Str} (h : isW s = true) : ∀ c ∈ tl s, c < 1114112 := fun c hc => by
  simp only [isW, isT, Bool.and_eq_true, decide_eq_true_eq, List.all_eq_true] at h
  have := h.1.2 c hc
  simp only [low, decide_eq_true_eq] at this
  omega
/-- sorted -/
def leT (a b : Str) : Bool := !decide (tl b < tl a)
def srt (xs : List Str) : List Str := xs.mergeSort leT
theorem leT_trans : ∀ a b c : Str, leT a b = true → leT b c = true → leT a c = true := fun a b c h1 h2 => by
  simp only [leT, Bool.not_eq_true', decide_eq_false_iff_not, List.not_lt] at *
  exact List.le_trans h1 h2
theorem leT_total : ∀ a b : Str, (leT a b || leT b a) = true := fun a b => by
  simp only [leT, Bool.or_eq_true, Bool.not_eq_true', decide_eq_false_iff_not, List.not_lt]
  exact List.le_total _ _
theorem srt_pw (xs : List Str) : (srt xs).Pairwise fun a b => ¬ (tl b < tl a) :=
  (List.pairwise_mergeSort leT_trans leT_total xs).imp fun {a b} h => by simpa [leT] using h
theorem srt_perm (xs : List Str) : (srt xs).Perm xs := List.mergeSort_perm xs leT
theorem srt_eq {ys xs : List Str} (p : ys.Perm xs) (h : sortedS ys = true) : ys = srt xs :=
  List.Perm.eq_of_pairwise (le := fun x y => ¬ (tl y < tl x)) (fun x y _ _ h1 h2 => TL.ext_tl (List.le_antisymm (List.not_lt.1 h1) (List.not_lt.1 h2))) (sortedS_pw h) (srt_pw xs) (p.trans (srt_perm xs).symm)
theorem srt_mem {xs : List Str} {x : Str} : x ∈ srt xs ↔ x ∈ xs := (srt_perm xs).mem_iff
/-- the least clash -/
def clash (ws : List Str) : Option (Str × Str) := adj (srt (dedT ws))
/-- words of a book -/
structure Gb (ws : List Str) : Prop where
  ok : ∀ w ∈ ws, isW w = true
  nc : NC ws
  nd : ws.Nodup
theorem Gb.len {ws : List Str} (h : Gb ws) {x : Str} (m : x ∈ ws) : x.length ≤ 12 := isW_len (h.ok x m)
theorem Bk.gb {ws : List Str} {n : Nat} (h : Bk ws n) : Gb ws := ⟨fun w m => okW_isW (h.ok w m), nc_fits h.ap, h.nodup⟩
/-- what blocks a word -/
def blk (ws : List Str) (x : Str) : Option Str := if (typed ws x).length = 0 then none else sug ws (cutT x ((typed ws x).length - 1))
theorem sug_mem {ws : List Str} {x y : Str} (h : sug ws x = some y) : y ∈ ws := List.mem_reverse.mp (List.mem_of_find?_eq_some h)
/-- an optional pair of texts -/
def optP : Option (Str × Str) → PyData
  | none => .none
  | some (a, b) => .tuple [.str a, .str b]
theorem Gb.nil : Gb [] := ⟨by simp, fun x hx => (by cases hx), List.Pairwise.nil⟩
theorem Bk.sub {ws us : List Str} {n : Nat} (B : Bk ws n) (p : us.Sublist ws) : Bk us n :=
  ⟨Nat.le_trans p.length_le B.len, fun w h => B.ok w (p.subset h), B.ap.sublist p⟩
end Gd
namespace Gd
open PySem PySem.Spec PyProof.Rows L2
section
variable {K : PySem.W.Frag} {w : World} {c c' : Cs} {e e' : Ev} {u x y : W}
variable {Q : W → Cs → Prop} {QB : Bool → Cs → Prop} {P : Ev → Cs → Prop} {ta tb tc te te1 to ti : TE} {t tk : TA} {tt : TT} {D : DV} {sp : SpV} {i j k : Nat} {g : TG} {ws : List Nat} {α β : Type}
theorem w_isiT {C : String} (h : Tw c x C) (q : Q (.d (.bool true)) c) (hC : C ∈ ["bool", "int", "str", "list", "tuple", "dict"] := by decide) : VX K w (uIsi K) [x, .ty C] c Q :=
  w_isi h (by rw [show isi C C = true by simp [isi]]; exact q) hC
theorem w_isiF {C t : String} (h : Tw c x t) (n : isi t C = false) (q : Q (.d (.bool false)) c) (hC : C ∈ ["bool", "int", "str", "list", "tuple", "dict"] := by decide) : VX K w (uIsi K) [x, .ty C] c Q :=
  w_isi h (by rw [n]; exact q) hC
theorem fm_some (f : α → β) (ys : List α) : ys.filterMap (fun y => some (f y)) = ys.map f := by
  induction ys with
  | nil => rfl
  | cons y ys ih => simp [ih]
theorem fm_if (p : α → Bool) (f : α → β) (ys : List α) : ys.filterMap (fun y => if p y = true then some (f y) else none) = (ys.filter p).map f := by
  induction ys with
  | nil => rfl
  | cons y ys ih =>
    by_cases h : p y = true
    · simp [h, ih]
    · simp [h, ih]
/-- over a list: all items -/
theorem vco_lM {ys : List α} {m : α → PyData} (f : α → PyData) (h : Lv c u (ys.map m)) (on : GOn ws g) (hz : ys.length < sizeLine) (hs : ∀ y ∈ ys, PTurn K w g tt te ws e c (m y) (some (f y))) (q : Q (.o (ys.map f)) c) : VLU K w (wU K) u e c g tt te ws Q :=
  vco_l (fun y => some (f y)) h on hz hs (by rw [fm_some]; exact q)
/-- over a list: some items -/
theorem vco_lP {ys : List α} {m : α → PyData} (p : α → Bool) (f : α → PyData) (h : Lv c u (ys.map m)) (on : GOn ws g) (hz : ys.length < sizeLine) (hs : ∀ y ∈ ys, PTurn K w g tt te ws e c (m y) (if p y = true then some (f y) else none)) (q : Q (.o ((ys.filter p).map f)) c) : VLU K w (wU K) u e c g tt te ws Q :=
  vco_l (fun y => if p y = true then some (f y) else none) h on hz hs (by rw [fm_if]; exact q)
theorem vco_sM {z : Str} (f : Nat → PyData) (on : GOn ws g) (hz : z.length < sizeLine) (hs : ∀ a ∈ tl z, PTurn K w g tt te ws e c (.str ⟨#[a]⟩) (some (f a))) (q : Q (.o ((tl z).map f)) c) : VLU K w (wU K) (.d (.str z)) e c g tt te ws Q :=
  vco_s (fun y => some (f y)) on hz hs (by rw [fm_some]; exact q)
theorem w_allM {ys : List α} {p : α → Bool} (h : Lv c x (ys.map fun y => .bool (p y))) (q : Q (.d (.bool (ys.all p))) c) : VX K w (rAll K) [x] c Q :=
  w_all (bs := ys.map p) (by rw [List.map_map]; exact h) (by rw [List.all_map]; exact q)
/-- a list against the empty one -/
theorem eqv_nil (ds : List PyData) : PyData.eqv (.list ds) (.list []) = ds.isEmpty := by
  cases ds <;> simp [PyData.eqv, PyData.eqvAll]
theorem w_eq0 {xs : List PyData} (h1 : Lv c x xs) (s : SeqAt.shaped (.list xs) = true) (q : Q (.d (.bool xs.isEmpty)) c) : V2 K w (uEq K) x (.o []) c Q :=
  w_eqD (.l h1) (.l .o) s (by decide +kernel) (by rw [eqv_nil]; exact q)
theorem w_ne0 {xs : List PyData} (h1 : Lv c x xs) (s : SeqAt.shaped (.list xs) = true) (q : Q (.d (.bool (!xs.isEmpty))) c) : V2 K w (uNe K) x (.o []) c Q :=
  w_neD (.l h1) (.l .o) s (by decide +kernel) (by rw [eqv_nil]; exact q)
end
theorem cutD_from (xs : List PyData) {d : Int} (h : 0 ≤ d) : cutD xs (some d) none = xs.drop d.toNat := by
  unfold cutD
  have e := HT.sIx_nat xs.length 0 d.toNat
  rw [Int.toNat_of_nonneg h] at e
  rw [e, HT.sIx_none]
  by_cases hd : d.toNat ≤ xs.length
  · rw [Nat.min_eq_left hd, List.take_of_length_le (by rw [List.length_drop]; omega)]
  · rw [Nat.min_eq_right (by omega), List.drop_of_length_le (Nat.le_refl _), List.drop_of_length_le (by omega), List.take_nil]
theorem cutD_to (xs : List PyData) {d : Int} (h : 0 ≤ d) : cutD xs none (some d) = xs.take d.toNat := by
  unfold cutD
  have e := HT.sIx_nat xs.length xs.length d.toNat
  rw [Int.toNat_of_nonneg h] at e
  rw [e, HT.sIx_none, List.drop_zero, Nat.sub_zero]
  by_cases hd : d.toNat ≤ xs.length
  · rw [Nat.min_eq_left hd]
  · rw [Nat.min_eq_right (by omega), List.take_of_length_le (by omega), List.take_of_length_le (by omega)]
theorem map_at {α : Type} {m : α → PyData} {ys : List α} {i : Nat} {d : PyData} (h : (ys.map m)[i]? = some d) : ∃ y, ys[i]? = some y ∧ d = m y := by
  rw [List.getElem?_map] at h
  obtain ⟨y, h1, h2⟩ := Option.map_eq_some_iff.mp h
  exact ⟨y, h1, h2.symm⟩
section
variable {K : PySem.W.Frag} {w : World} {c : Cs} {Q : W → Cs → Prop}
theorem w_isP {o : Option (Str × Str)} (q : Q (.d (.bool o.isNone)) c) : V2 K w (fun x y H Q => y = .non ∧ Q (.bl (decide (x = .non))) H) (.d (optP o)) (.d .none) c Q := by
  match o, q with
  | none, q => exact w_isN q
  | some (a, b), q => exact w_isN q
end
section
variable {K : PySem.W.Frag} {w : World} {c : Cs} {Q : W → Cs → Prop}
theorem w_eqTt {t : String} (q : Q (.d (.bool true)) c) (ht : t ∈ ["NoneType", "bool", "int", "str", "list", "tuple", "dict"] := by decide) : V2 K w uEqT (.ty t) (.ty t) c Q :=
  w_eqT (by rw [decide_eq_true rfl]; exact q) ht ht
end
theorem gs_c {c : Cs} {k : Nat} {i : Int} {xs : List PyData} {j : Nat} {P : Nat → Int → List PyData → Nat → Prop} (hx : c[k]? = some (.l xs)) (hj : ixN xs.length i = some j) (q : P k i xs j) :
    ∃ k' i' xs j, W.c k = .c k' ∧ W.d (.int i) = .d (.int i') ∧ c[k']? = some (.l xs) ∧ ixN xs.length i' = some j ∧ P k' i' xs j := ⟨k, i, xs, j, rfl, rfl, hx, hj, q⟩
theorem ite_f {A B : Prop} {b : Bool} (h : b = false) (q : B) : if b = true then A else B := by rw [h]; exact q
theorem ite_t {A B : Prop} {b : Bool} (h : b = true) (q : A) : if b = true then A else B := by rw [h]; exact q
section
variable {K : PySem.W.Frag} {w : World} {c : Cs} {Q : W → Cs → Prop}
theorem w_max2 {i j : Int} (q : Q (.d (.int (if j > i then j else i))) c) : VX K w (fun xs H Q => ∃ i j, xs = [.int i, .int j] ∧ Q (.int (if j > i then j else i)) H) [.d (.int i), .d (.int j)] c Q := w_x2 dq_int dq_int (.int _) (fun q => ⟨_, _, rfl, q⟩) q
theorem w_min2 {i j : Int} (q : Q (.d (.int (if j < i then j else i))) c) : VX K w (fun xs H Q => ∃ i j, xs = [.int i, .int j] ∧ Q (.int (if j < i then j else i)) H) [.d (.int i), .d (.int j)] c Q := w_x2 dq_int dq_int (.int _) (fun q => ⟨_, _, rfl, q⟩) q
theorem shaped_ones {α : Type} (ys : List α) : SeqAt.shaped (.list (ys.map fun _ => PyData.int 1)) = true := shaped_map _ ys fun _ _ => ⟨by simp [PyData.canLay0], by simp [PyData.depth]⟩
end
section
variable {K : PySem.W.Frag} {w : World} {e : Ev} {c : Cs} {Q Q' : W → Cs → Prop} {QB QB' : Bool → Cs → Prop} {ta tb te : TE} {tt : TT} {b : Bool}
theorem VE.mono (h : VE K w te e c Q') (f : ∀ u c1, Q' u c1 → Q u c1) : VE K w te e c Q :=
  fun B G ρ σ H T X S k => h B G ρ σ H T X S fun u v c' G' ρ' H' E X s fr q => k u v c' G' ρ' H' E X s fr (f u c' q)
theorem VT.mono (h : VT K w tt e c QB') (f : ∀ u c1, QB' u c1 → QB u c1) : VT K w tt e c QB :=
  fun B G ρ σ H T X S k => h B G ρ σ H T X S fun u c' G' ρ' H' E X q => k u c' G' ρ' H' E X (f u c' q)
/-- a and b, where b is never true -/
theorem ite_no (h : b = true → VT K w tt e c fun r c1 => r = false ∧ c1 = c) (q : QB false c) : if b = true then VT K w tt e c QB else QB false c := by
  by_cases hb : b = true
  · rw [if_pos hb]; exact (h hb).mono fun u c1 ⟨a, d⟩ => by rw [a, d]; exact q
  · rw [if_neg hb]; exact q
end
theorem w_eqSs {K : PySem.W.Frag} {w : World} {c : Cs} {Q : W → Cs → Prop} {a : Str} (q : Q (.d (.bool true)) c) : V2 K w (uEq K) (.d (.str a)) (.d (.str a)) c Q := w_eqS (by rw [decide_eq_true rfl]; exact q)
end Gd
namespace Gd
open PySem PySem.Spec PyProof.Rows L2
section
variable {X : Cx} {κ : Type} [DecidableEq κ]
/-- sorted(d), all its keys texts -/
def uSortedD : List V → Hp → VK → Prop := fun xs H Q => ∃ (a : Addr) (kvs : List (Key × V)) (ks : List Str), xs = [.ref a] ∧ Rd H a (.dK kvs) ∧ kvs.map (·.1) = ks.map Sum.inr ∧
    ∀ ys p, ys.Perm ks → sortedS ys = true → H p = none → Q (.ref p) (upd H p (.lst (ys.map V.str)))
theorem cu_sortedD (hcalm : X.calm = true) : CallR X (.builtin "sorted") uSortedD := by
  intro pins s σ H xs us Q I r q
  obtain ⟨a, kvs, ks, ex, hd, hks, q⟩ := q
  subst ex
  obtain ⟨u, eu, rx⟩ := vals1 r
  subst eu
  cases rx
  obtain ⟨z, lo, vs, rel, dd⟩ := dk_rd I.hok hd
  obtain ⟨ep, hat⟩ := dd.dictAt
  have hkeys : vs.map (·.1) = ks.map Sum.inr := rel.keys.symm.trans hks
  have hl : vs.length = ks.length := by
    have e := congrArg List.length hkeys
    rw [List.length_map, List.length_map] at e
    exact e
  have h16 : vs.length ≤ sizeLine := by rw [← rel.length]; exact z
  refine Calls.call_function_entry PyProof.Rows.kind_sorted PyProof.Rows.plain_sorted PyProof.Rows.entry_sorted (PyProof.Rows.args_sorted1 _) ?_
  unfold Builtin.«sorted»
  refine wpAny_bind (m := checkCount "sorted" 1 1 _) (wpAny_pure ?_)
  refine wpAny_bind (PySem.W.kdu_collect (A := X.A.in1) (PySem.W.kdl_dict (knd := mixKind X.prog X.w) (kvs := vs) (ep := ep) lo) (I.ok.hd hcalm) hat h16 fun h' tk acc hk hacc => ?_)
  have hal : acc.toList.length = ks.length := by rw [Array.length_toList, hacc.1, hl]
  have hS : StrsAre acc.toList ks := strs_at hal fun j v e => by
    obtain ⟨k, x, e1, e2⟩ := hacc.2 j v (by rw [← Array.getElem?_toList]; exact e)
    have e3 : (vs.map (·.1))[j]? = some k := by rw [List.getElem?_map, e1]; all_goals rfl
    rw [hkeys, List.getElem?_map] at e3
    cases e4 : ks[j]? with
    | none => rw [e4] at e3; cases e3
    | some y =>
      rw [e4] at e3
      have e5 : Sum.inr y = k := Option.some.inj e3
      subst e5
      obtain ⟨t, ev⟩ := Value.isStrOf_shape (x := y) (v := v) e2
      exact ⟨y, t, rfl, ev⟩
  have hz : acc.toList.length ≤ sizeLine := by rw [hal, ← hl]; exact h16
  have I1 : Inv X pins σ H { s with heap := h', toks := tk } := I.kept hk
  refine wpAny_bind (wpAny_newList ?_ hz)
  have hoL : (h'.push (seqObj "list" acc.toList.toArray 0)).get? h'.objs.size = some (seqObj "list" acc.toList.toArray 0) := Heap.get?_push_size _ rfl
  show wpAny _ _ _ _ _ { s with heap := h'.push (seqObj "list" acc.toList.toArray 0), toks := tk }
  refine wpAny_bind (wpAny_holding (wpAny_call_entry PyProof.Rows.slot_list_sort ⟨_, hoL, rfl⟩ PyProof.Rows.entry_list_sort
    (list_sort_treeKAny strKind_oneLt (s := { s with heap := h'.push (seqObj "list" acc.toList.toArray 0), toks := tk }) hoL hS.keysOf (fun v₁ v₂ rest e => keyKind_strs (by rw [← e]; exact hS)) hz fun st' hp hs => ⟨_, rfl, ?_⟩)
    (PyProof.Rows.args_list_sort _)))
  obtain ⟨ys, g1, g2, g3⟩ := sorted_out_str hS hp hs
  obtain ⟨e', he'⟩ := PyProof.Rows.sortedHeap_at (vs := acc.toList) (out := (arrOf st').map (·.2)) hoL
  have hlen : (ys.map V.str).length ≤ sizeLine := by
    rw [List.length_map, g2.length_eq, ← hal]
    exact hz
  refine wpAny_pure ⟨_, rfl, .ref h'.objs.size, upd H h'.objs.size (.lst (ys.map V.str)), I1.laid (t' := tk) (fun b u e => ?_) (Nat.le_refl _)
    (show ObjOk X.prog X.w _ _ _ (.lst (ys.map V.str)) from ⟨hlen, ((arrOf st').map (·.2)).toList, e', vals_of_strs g1, by rw [Array.toArray_toList]; exact he'⟩), rfl, q ys _ g2 g3 (I1.hok.fresh (Nat.le_refl _))⟩
  have hb : b < h'.objs.size := Heap.lt_size e
  rw [PyProof.Rows.sortedHeap_old (Nat.ne_of_lt hb) (by rw [size_push']; exact Nat.lt_succ_of_lt hb)]
  exact Heap.get?_push_of_some _ e
/-- sorted of a text: its signs -/
def uSortedStr : List V → Hp → VK → Prop := fun xs H Q => ∃ z : Str, xs = [.str z] ∧ z.length ≤ 100000 ∧
    ∀ ys p, ys.Perm ((tl z).map fun a => (⟨#[a]⟩ : Str)) → sortedS ys = true → H p = none → Q (.ref p) (upd H p (.lst (ys.map V.str)))
theorem cu_sortedStr (hcalm : X.calm = true) : CallR X (.builtin "sorted") uSortedStr := by
  intro pins s σ H xs us Q I r q
  obtain ⟨z, ex, hz, q⟩ := q
  subst ex
  obtain ⟨u, eu, rx⟩ := vals1 r
  subst eu
  obtain ⟨t, rfl⟩ := rx
  have hz16 : z.cps.size ≤ sizeLine := by rw [sizeLine_eq]; exact Nat.le_trans hz (by decide)
  refine Calls.call_function_entry PyProof.Rows.kind_sorted PyProof.Rows.plain_sorted PyProof.Rows.entry_sorted (PyProof.Rows.args_sorted1 _) ?_
  unfold Builtin.«sorted»
  refine wpAny_bind (m := checkCount "sorted" 1 1 _) (wpAny_pure ?_)
  refine wpAny_bind (wpAny_collect_str (A := X.A.in1) (I.ok.hd hcalm) z t (fun s1 acc hk hg hdr hos hacc => ?_) hz16)
  obtain ⟨h', g', d', tk, o'⟩ := s1
  have hg' : g' = s.gens := hg
  have hd' : d' = s.drawn := hdr
  have ho' : o' = s.os := hos
  subst hg' hd' ho'
  have hal : acc.toList.length = ((tl z).map fun a => (⟨#[a]⟩ : Str)).length := by rw [Array.length_toList, hacc.1, List.length_map]; simp [tl]
  have hS : StrsAre acc.toList ((tl z).map fun a => (⟨#[a]⟩ : Str)) := strs_at hal fun j v e => by
    obtain ⟨c, t, e1, e2⟩ := hacc.2 j v (by rw [← Array.getElem?_toList]; exact e)
    refine ⟨⟨#[c]⟩, t, ?_, e2⟩
    rw [List.getElem?_map, tl, Array.getElem?_toList, e1]
    rfl
  have hz : acc.toList.length ≤ sizeLine := by rw [hal, List.length_map]; simpa [tl] using hz16
  have I1 : Inv X pins σ H { s with heap := h', toks := tk } := I.kept hk
  refine wpAny_bind (wpAny_newList ?_ hz)
  have hoL : (h'.push (seqObj "list" acc.toList.toArray 0)).get? h'.objs.size = some (seqObj "list" acc.toList.toArray 0) := Heap.get?_push_size _ rfl
  show wpAny _ _ _ _ _ { s with heap := h'.push (seqObj "list" acc.toList.toArray 0), toks := tk }
  refine wpAny_bind (wpAny_holding (wpAny_call_entry PyProof.Rows.slot_list_sort ⟨_, hoL, rfl⟩ PyProof.Rows.entry_list_sort
    (list_sort_treeKAny strKind_oneLt (s := { s with heap := h'.push (seqObj "list" acc.toList.toArray 0), toks := tk }) hoL hS.keysOf (fun v₁ v₂ rest e => keyKind_strs (by rw [← e]; exact hS)) hz fun st' hp hs => ⟨_, rfl, ?_⟩)
    (PyProof.Rows.args_list_sort _)))
  obtain ⟨ys, g1, g2, g3⟩ := sorted_out_str hS hp hs
  obtain ⟨e', he'⟩ := PyProof.Rows.sortedHeap_at (vs := acc.toList) (out := (arrOf st').map (·.2)) hoL
  have hlen : (ys.map V.str).length ≤ sizeLine := by
    rw [List.length_map, g2.length_eq, ← hal]
    exact hz
  refine wpAny_pure ⟨_, rfl, .ref h'.objs.size, upd H h'.objs.size (.lst (ys.map V.str)), I1.laid (t' := tk) (fun b u e => ?_) (Nat.le_refl _)
    (show ObjOk X.prog X.w _ _ _ (.lst (ys.map V.str)) from ⟨hlen, ((arrOf st').map (·.2)).toList, e', vals_of_strs g1, by rw [Array.toArray_toList]; exact he'⟩), rfl, q ys _ g2 g3 (I1.hok.fresh (Nat.le_refl _))⟩
  have hb : b < h'.objs.size := Heap.lt_size e
  rw [PyProof.Rows.sortedHeap_old (Nat.ne_of_lt hb) (by rw [size_push']; exact Nat.lt_succ_of_lt hb)]
  exact Heap.get?_push_of_some _ e
end
section
variable {K : PySem.W.Frag} {w : World} {B G G' G'' G0 : Addr → Prop} {ρ ρ' ρ'' ρ0 : List Addr} {H H' H'' H0 : Hp} {c c' : Cs} {σ : L2.St} {e e' : Ev} {v vx vy : V} {u x y z : W}
variable {Q : W → Cs → Prop} {td ty tx tv : TE} {D : DV} {P : Ev → Cs → Prop}
abbrev KR (G : Addr → Prop) (H : Hp) : List (Key × V) → List (Key × PyData) → Prop := Paired fun a b => a.1 = b.1 ∧ Dq G H a.2 b.2
theorem KR.mv {vs : List (Key × V)} {kvs : List (Key × PyData)} (r : KR G H vs kvs) (k : ∀ b o, G b → H b = some o → H' b = some o) (m : ∀ b, G b → G' b) : KR G' H' vs kvs := Paired.mono (fun _ _ q => ⟨q.1, Dq.mono k m _ _ q.2⟩) r
theorem KR.keys {vs : List (Key × V)} {kvs : List (Key × PyData)} (r : KR G H vs kvs) : vs.map (·.1) = kvs.map (·.1) := by
  induction r with
  | nil => rfl
  | cons h _ ih => rw [List.map_cons, List.map_cons, ih, h.1]
end
end Gd
namespace Gd
open PySem PySem.Spec PyProof.Rows L2
def ofL (l : List Nat) : Str := ⟨l.toArray⟩
theorem tl_ofL (l : List Nat) : tl (ofL l) = l := rfl
theorem tl_inj {a b : Str} (h : tl a = tl b) : a = b := TL.ext_tl h
/-- the words' next letters behind a text, ascending -/
def lets (ws : List Str) (t : Str) : List Nat := (List.range' 97 26).filter fun a => ws.any fun w => (tl t ++ [a]).isPrefixOf (tl w)
/-- the texts ahead of a letter -/
def pfx (ws : List Str) : List Str := dedT (ws.flatMap fun w => (List.range w.length).map (cutT w))
def brs (ws : List Str) : List (Str × Str) := ((srt (pfx ws)).filter fun t => decide (1 < (lets ws t).length)).map fun t => (t, ofL (lets ws t))
/-- the letters as they come -/
def evs (ws : List Str) : List (Str × Nat) := ws.flatMap fun w => (List.range w.length).map fun l => (cutT w l, (tl w).getD l 0)
theorem tl_cutT (w : Str) (l : Nat) : tl (cutT w l) = (tl w).take l := by
  unfold cutT
  rw [cut_to _ (by omega), Int.toNat_natCast]
theorem evs_mem {ws : List Str} {t : Str} {a : Nat} : (t, a) ∈ evs ws ↔ ∃ w ∈ ws, (tl t ++ [a]).isPrefixOf (tl w) = true := by
  unfold evs
  rw [List.mem_flatMap]
  constructor
  · rintro ⟨w, hw, h⟩
    obtain ⟨l, hl, e⟩ := List.mem_map.mp h
    refine ⟨w, hw, ?_⟩
    have hl2 : l < (tl w).length := by rw [← TL.len_tl]; exact List.mem_range.mp hl
    obtain ⟨e1, e2⟩ := Prod.mk.inj e
    rw [← e1, ← e2, tl_cutT, List.isPrefixOf_iff_prefix, List.getD_eq_getElem?_getD, List.getElem?_eq_getElem hl2]
    refine ⟨(tl w).drop (l + 1), ?_⟩
    show (tl w).take l ++ [(tl w)[l]] ++ (tl w).drop (l + 1) = tl w
    rw [List.append_assoc, List.singleton_append, List.getElem_cons_drop, List.take_append_drop]
  · rintro ⟨w, hw, h⟩
    rw [List.isPrefixOf_iff_prefix] at h
    obtain ⟨r, hr⟩ := h
    have hlen : (tl t).length < w.length := by
      rw [TL.len_tl]
      show (tl t).length < (tl w).length
      rw [← hr]
      simp only [List.length_append, List.length_cons, List.length_nil]
      omega
    refine ⟨w, hw, List.mem_map.mpr ⟨(tl t).length, List.mem_range.mpr hlen, ?_⟩⟩
    refine Prod.ext (tl_inj ?_) ?_
    · show tl (cutT w (tl t).length) = tl t
      rw [tl_cutT, ← hr, List.append_assoc, List.take_left]
    · show (tl w).getD (tl t).length 0 = a
      rw [← hr, List.append_assoc, List.getD_eq_getElem?_getD, List.getElem?_append_right (Nat.le_refl _)]
      simp
/-- words of small letters -/
def Low (ws : List Str) : Prop := ∀ w ∈ ws, ∀ a ∈ tl w, 97 ≤ a ∧ a ≤ 122
theorem lets_mem {ws : List Str} (hl : Low ws) {t : Str} {a : Nat} : a ∈ lets ws t ↔ (t, a) ∈ evs ws := by
  rw [evs_mem]
  unfold lets
  rw [List.mem_filter, List.any_eq_true]
  constructor
  · rintro ⟨_, h⟩; exact h
  · rintro ⟨w, hw, h⟩
    refine ⟨?_, w, hw, h⟩
    rw [List.isPrefixOf_iff_prefix] at h
    have := hl w hw a (h.subset (by simp))
    rw [List.mem_range'_1]
    omega
end Gd
namespace Gd
open PySem PySem.Spec PyProof.Rows L2
/-- what the words' texts and letters are, as data -/
def brD (p : Str × Str) : PyData := .tuple [.str p.1, .str p.2]
end Gd
namespace Gd
open PySem PySem.Spec PyProof.Rows L2
section
variable {X : Cx} {K : PySem.W.Frag} {w : World}
def uSort (K : PySem.W.Frag) (w : World) : List V → Hp → VK → Prop := fun xs H Q => uSorted K w xs H Q ∨ (uSortedD xs H Q ∨ (uSortedStr xs H Q ∨ rSortedI K xs H Q))
theorem cu_sort (hc : X.calm = true) : CallR X (.builtin "sorted") (uSort X.K X.w) := (cu_sorted hc).or ((cu_sortedD hc).or ((cu_sortedStr hc).or cr_sortedI))
theorem kcu_sort (hk : K = X.K) (hw : w = X.w) (hc : X.calm = true) : CallR X (.builtin "sorted") (uSort K w) := by
  subst hk hw
  exact cu_sort hc
end
section
variable {K : PySem.W.Frag} {w : World} {B G G' G'' G0 : Addr → Prop} {ρ ρ' ρ'' ρ0 : List Addr} {H H' H'' H0 : Hp} {c c' : Cs} {σ : L2.St} {e e' : Ev} {v vx vy : V} {u x y z : W} {us : List W}
variable {Q : W → Cs → Prop}
theorem VX.mono {r r' : List V → Hp → VK → Prop} (h : VX K w r us c Q) (m : ∀ vs H T, r vs H T → r' vs H T) : VX K w r' us c Q := by
  intro B G0 ρ0 H0 G ρ H vs T E X sx fx kt
  exact m _ _ _ (h B G0 ρ0 H0 G ρ H vs T E X sx fx kt)
theorem s_set {ks : List Str} (q : ∀ ys : List Str, ys.Perm ks → sortedS ys = true → Q (.o (ys.map .str)) c) : VX K w (uSort K w) [.set ks] c Q := (w_sortedS q).mono fun _ _ _ => .inl
end
section
variable {X : Cx} {K : PySem.W.Frag} {w : World} {st : Stmt} {i j : Nat} {t : TA} {e : Ev} {c : Cs} {D : DV}
/-- both ways of an expression joined by what they have in common -/
theorem ite_joinQ {te1 te2 : TE} {Q : W → Cs → Prop} {k : Bool} (J : W → Cs → Prop) (h1 : k = true → VE K w te1 e c J) (h2 : ¬ k = true → VE K w te2 e c J) (q : ∀ u c1, J u c1 → Q u c1) : if k = true then VE K w te1 e c Q else VE K w te2 e c Q := by
  split
  · exact (h1 ‹_›).mono q
  · exact (h2 ‹_›).mono q
end
end Gd
namespace Gd
open PySem PySem.Spec PyProof.Rows L2
end Gd
namespace Gd
open PySem PySem.Spec PyProof.Rows L2
end Gd
namespace Gd
open PySem PySem.Spec PyProof.Rows L2
def wZA (K : PySem.W.Frag) (R : It → Hp → Prop) (vs : List V) (H1 : Hp) : Prop := ∃ a b xs ys, vs = [.ref a, .ref b] ∧ ((SqL K H1 a xs ∧ SqL K H1 b ys ∧ R (Itz K a b) H1) ∨ (SqT K H1 a xs ∧ SqT K H1 b ys ∧ R (RZ.ItzT K a b) H1))
section
variable {X : Cx} {K : PySem.W.Frag} (h : X.K = K) {e : Expr} {t : TA}
include h
theorem kpi_zipA {e2 : Expr} {p pos tpos : Pos} {elts : List Expr} {kk : Nat} (hg : Gl X "zip")
    (hm : X.mg "zip" = none) (ha : PA X [e, e2] t)
    (hs : starEach [e, e2] X.env = (false, eval e X.env) :: starEach [e2] X.env := by rfl)
    (hpl : (backTo pos (starEach [e2] X.env)).any (·.1) = false := by rfl) :
    PI X (.Tuple elts kk tpos) (.Call (.Name "zip" p) [e, e2] [] pos) (RZ.iZipA K t) := by
  subst h
  exact RZ.pi_zipA hg hm ha hs hpl
end
section
variable {K : PySem.W.Frag} {w : World} {B G G' G'' G0 : Addr → Prop} {ρ ρ' ρ'' ρ0 : List Addr} {H H' H'' H0 : Hp} {c c' : Cs} {σ : L2.St} {e e' : Ev} {v vx vy : V} {u u2 x y : W}
variable {Q : W → Cs → Prop} {te : TE} {t : TA} {tt tt1 : TT} {g : TG} {ws : List Nat} {xs : List PyData}
theorem v_lcZA (h : VA K w t e c fun u c1 => VLA K w (wZA K) u e c1 g tt te ws Q) : VE K w (tLc (RZ.iZipA K t) g tt te ws) e c Q := by
  intro B G ρ σ H T X S k
  exact h B G ρ σ H _ X S fun u v c1 G1 ρ1 H1 E1 X1 s1 f1 d1 q1 => q1 B G ρ H G1 ρ1 σ H1 v T E1 X1 (E1.sl X S) s1 k
theorem it_zA {xs ys : List PyData} (h : Lv c u xs) (h' : Lv c u2 ys) : ItA K w (wZA K) [u, u2] c (min xs.length ys.length) (fun i d => ∃ a b, xs[i]? = some a ∧ ys[i]? = some b ∧ d = .tuple [a, b]) (fun c' => Lv c' u xs ∧ Lv c' u2 ys) := by
  intro B G ρ H vs X s0
  obtain ⟨J, GG, Y, h1, h2, h3, h4⟩ := it_z (w := w) (K := K) h h' B G ρ H vs X s0
  obtain ⟨v, v', rfl, s, s'⟩ := v2 s0
  obtain ⟨a, vs, rfl, a1, a2⟩ := h.seq X s
  obtain ⟨b, us, rfl, b1, b2⟩ := h'.seq X s'
  refine ⟨Itz K a b, _, _, walkZ (n := xs.length) (m := ys.length), fun R r => ⟨a, b, vs, us, rfl, .inl ⟨a1, b1, r⟩⟩, fun c' G' ρ' H' E X' kp => ?_, fun i x c' G' ρ' H' H'' E X' kp hi y => ?_⟩
  · obtain ⟨a', vs', e, h1', h2'⟩ := kp.1.seq X' (E.sh X s)
    cases e
    obtain ⟨b', us', e, g1', g2'⟩ := kp.2.seq X' (E.sh X s')
    cases e
    exact ⟨vs', us', h1', dql_len h2', g1', dql_len g2'⟩
  · obtain ⟨T, x, z, rfl, hT, rfl, y, y'⟩ := y
    obtain ⟨a', vs', e, h1', h2'⟩ := kp.1.seq X' (E.sh X s)
    cases e
    obtain ⟨b', us', e, g1', g2'⟩ := kp.2.seq X' (E.sh X s')
    cases e
    obtain ⟨d, e1, e2⟩ := DqL.get h2' (y vs' h1')
    obtain ⟨d', e1', e2'⟩ := DqL.get g2' (y' us' g1')
    exact ⟨_, ⟨d, d', e1, e1', rfl⟩, yv_tup X' hT (.cons e2 (.cons e2' .nil))⟩
theorem walkZT {a b : Addr} {n m : Nat} : Walk (RZ.ItzT K a b) (min n m) (fun H => ∃ vs us, SqT K H a vs ∧ vs.length = n ∧ SqT K H b us ∧ us.length = m) (fun i H v H' => ∃ T x y, v = .ref T ∧ H T = none ∧ H' = upd H T (.tup [x, y]) ∧ (∀ xs, SqT K H a xs → xs[i]? = some x) ∧ ∀ ys, SqT K H b ys → ys[i]? = some y) :=
  ⟨fun i _ hi ⟨vs, us, q, e, q', e'⟩ => ⟨vs, us, vs[i], us[i], q, q', by simp, by simp⟩, fun _ ⟨vs, us, q, e, q', e'⟩ => ⟨vs, us, q, q', by omega⟩, fun _ _ _ _ _ _ y => y⟩
theorem tup_seq (q : Sh K w B G ρ H v (.d (.tuple xs))) : ∃ a vs, v = .ref a ∧ SqT K H a vs ∧ DqL G H vs xs := by
  cases q with
  | d q =>
    cases q with
    | tup n h r => exact ⟨_, _, rfl, SqT.of h, r⟩
theorem it_zT {xs ys : List PyData} : ItA K w (wZA K) [.d (.tuple xs), .d (.tuple ys)] c (min xs.length ys.length) (fun i d => ∃ a b, xs[i]? = some a ∧ ys[i]? = some b ∧ d = .tuple [a, b]) (fun c' => True) := by
  intro B G ρ H vs X s0
  obtain ⟨v, v', rfl, s, s'⟩ := v2 s0
  obtain ⟨a, vs, rfl, a1, a2⟩ := tup_seq s
  obtain ⟨b, us, rfl, b1, b2⟩ := tup_seq s'
  refine ⟨RZ.ItzT K a b, _, _, walkZT (n := xs.length) (m := ys.length), fun R r => ⟨a, b, vs, us, rfl, .inr ⟨a1, b1, r⟩⟩, fun c' G' ρ' H' E X' kp => ?_, fun i x c' G' ρ' H' H'' E X' kp hi y => ?_⟩
  · obtain ⟨a', vs', e, h1', h2'⟩ := tup_seq (E.sh X s)
    cases e
    obtain ⟨b', us', e, g1', g2'⟩ := tup_seq (E.sh X s')
    cases e
    exact ⟨vs', us', h1', dql_len h2', g1', dql_len g2'⟩
  · obtain ⟨T, x, z, rfl, hT, rfl, y, y'⟩ := y
    obtain ⟨a', vs', e, h1', h2'⟩ := tup_seq (E.sh X s)
    cases e
    obtain ⟨b', us', e, g1', g2'⟩ := tup_seq (E.sh X s')
    cases e
    obtain ⟨d, e1, e2⟩ := DqL.get h2' (y vs' h1')
    obtain ⟨d', e1', e2'⟩ := DqL.get g2' (y' us' g1')
    exact ⟨_, ⟨d, d', e1, e1', rfl⟩, yv_tup X' hT (.cons e2 (.cons e2' .nil))⟩
end
section
variable {K : PySem.W.Frag} {w : World} {c : Cs} {Q : W → Cs → Prop} {x y : W}
theorem w_isi2T {t A B : String} (h : Tw c x t) (n : (isi t A || isi t B) = true) (q : Q (.d (.bool true)) c) (hA : A ∈ ["bool", "int", "str", "list", "tuple", "dict"] := by decide) (hB : B ∈ ["bool", "int", "str", "list", "tuple", "dict"] := by decide) : VX K w (uIsi2 K) [x, .tt A B] c Q := w_isi2 h (by rw [n]; exact q) hA hB
theorem w_isi2F {t A B : String} (h : Tw c x t) (n : (isi t A || isi t B) = false) (q : Q (.d (.bool false)) c) (hA : A ∈ ["bool", "int", "str", "list", "tuple", "dict"] := by decide) (hB : B ∈ ["bool", "int", "str", "list", "tuple", "dict"] := by decide) : VX K w (uIsi2 K) [x, .tt A B] c Q := w_isi2 h (by rw [n]; exact q) hA hB
theorem w_eqNn (q : Q (.d (.bool true)) c) : V2 K w (uEq K) (.d .none) (.d .none) c Q := w_eqD .d .d (by decide +kernel) (by decide +kernel) q
theorem w_eqIs {a : Int} (q : Q (.d (.bool true)) c) : V2 K w (uEq K) (.d (.int a)) (.d (.int a)) c Q := w_eqI (by rw [decide_eq_true rfl]; exact q)
theorem w_eqBs {a : Bool} (q : Q (.d (.bool true)) c) : V2 K w (uEq K) (.d (.bool a)) (.d (.bool a)) c Q := w_eqB (by rw [show (a == a) = true by cases a <;> rfl]; exact q)
theorem w_neBs {a : Bool} (q : Q (.d (.bool false)) c) : V2 K w (uNe K) (.d (.bool a)) (.d (.bool a)) c Q := w_neB (by rw [show (!(a == a)) = false by cases a <;> rfl]; exact q)
theorem v_tupTT {e : Ev} {a b : String} (q : Q (.tt a b) c) : VE K w (tTup (tCons (tC (.ty a)) (tCons (tC (.ty b)) tNil))) e c Q := v_tupT (v_cons (v_ty (v_cons (v_ty (v_nil ⟨a, b, rfl, q⟩)))))
/-- over a zip of equal sequences: all items, each with itself -/
theorem vco_zs {wfA : (It → Hp → Prop) → List V → Hp → Prop} {ua : List W} {xs : List PyData} {keep : Cs → Prop} {e : Ev} {g : TG} {tt : TT} {te : TE} {ws : List Nat} (f : PyData → PyData)
    (it : ItA K w wfA ua c (min xs.length xs.length) (fun i d => ∃ a b, xs[i]? = some a ∧ xs[i]? = some b ∧ d = .tuple [a, b]) keep) (hk : keep c) (on : GOn ws g) (hz : xs.length < sizeLine)
    (hs : ∀ y ∈ xs, PTurn K w g tt te ws e c (.tuple [y, y]) (some (f y))) (q : Q (.o (xs.map f)) c) : VLA K w wfA ua e c g tt te ws Q :=
  vcoFA xs (fun y => .tuple [y, y]) (fun y => some (f y)) it (by omega) (fun i d hi ⟨a, b, ha, hb, e⟩ => ⟨a, ha, by rw [e]; rw [ha] at hb; cases hb; rfl⟩) hk on hz hs (by rw [fm_some]; exact q)
end
/-- what two equal values may be -/
def bw : PyData → W
  | .list xs => .b xs
  | x => .d x
def eqOk : Nat → PyData → Bool
  | 0, _ => false
  | d + 1, .list xs => xs.all (eqOk d) && decide (xs.length ≤ 100000)
  | d + 1, .tuple xs => xs.all (eqOk d) && decide (xs.length ≤ 100000)
  | _ + 1, .none => true
  | _ + 1, .bool _ => true
  | _ + 1, .int _ => true
  | _ + 1, .str s => PyData.strOk s
  | _ + 1, _ => false
theorem eqOk_lst {d : Nat} {xs : List PyData} (h : xs.all (eqOk d) = true) (hl : xs.length ≤ 100000) : eqOk (d + 1) (.list xs) = true := by
  rw [eqOk, h]; simpa using hl
end Gd
namespace Gd
open PySem PySem.Spec PyProof.Rows L2
inductive DxA (c : Cs) : List W → List PyData → Prop
  | nil : DxA c [] []
  | cons {u : W} {x : PyData} {us : List W} {xs : List PyData} (h : Dx c u x) (t : DxA c us xs) : DxA c (u :: us) (x :: xs)
section
variable {K : PySem.W.Frag} {w : World} {B G G' G'' G0 : Addr → Prop} {ρ ρ' ρ'' ρ0 : List Addr} {H H' H'' H0 : Hp} {c c' : Cs} {σ : L2.St} {e e' : Ev} {v vx vy : V} {u u2 x y : W}
variable {Q : W → Cs → Prop} {te : TE} {t : TA}
theorem Dx.dq2 (X : Hx B G ρ c H) (q : Sh K w B G ρ H v u) {x : PyData} (l : Dx c u x) : Dq (fun _ => True) H v x := by
  cases l with
  | d => cases q with | d q => exact q.imp fun _ _ => trivial
  | l h =>
    obtain ⟨a, vs, rfl, h1, h2⟩ := h.at X q
    exact .lst trivial h1 (h2.imp fun _ _ => trivial)
theorem DxA.dq (X : Hx B G ρ c H) {vs : List V} {us : List W} {xs : List PyData} (q : Paired (Sh K w B G ρ H) vs us) (l : DxA c us xs) : DqL (fun _ => True) H vs xs := by
  induction q generalizing xs with
  | nil => cases l; exact .nil
  | cons a t ih => cases l with | cons h r => exact .cons (h.dq2 X a) (ih r)
end
end Gd
namespace Gd
open PySem PySem.Spec PyProof.Rows L2
theorem GFn.no0 {P : Program} {w : World} {K : PySem.W.Frag} {mg : Str → Option Value} {base : Heap} {CX : CXT} {k : Nat} {f : Addr} {fd : FuncData} {ps : List Str} {sp : SpV} (h : ∀ us c Q, ¬ sp us c Q) : GFn P w K mg base CX k f fd ps (lift K w sp) :=
  ⟨fun vs H Q E q => (by obtain ⟨_, _, _, _, _, _, _, _, _, q, _⟩ := q; exact absurd q (h _ _ _)), fun A outer s H args us vs Q E _ _ _ _ _ q => (by obtain ⟨_, _, _, _, _, _, _, _, _, q, _⟩ := q; exact absurd q (h _ _ _))⟩
end Gd
namespace Gd
open PySem PySem.Spec PyProof.Rows L2
section
variable {K : PySem.W.Frag} {w : World} {c : Cs} {e : Ev} {Q : W → Cs → Prop} {t : TA} {sp : SpV} {n : Nat}
theorem shs_stay {B G G' : Addr → Prop} {ρ ρ' : List Addr} {H H' : Hp} (h : Stay B G ρ H G' ρ' H') : ∀ {vs : List V} {us : List W}, us.all W.noO = true → Paired (Sh K w B G ρ H) vs us → Paired (Sh K w B G' ρ' H') vs us
  | _, _, _, .nil => .nil
  | _, _, n, .cons a t => by
    rw [List.all_cons, Bool.and_eq_true] at n
    exact .cons (h.sh a n.1) (shs_stay h n.2 t)
end
end Gd
namespace Gd
open PySem PySem.Spec PyProof.Rows L2
end Gd
namespace Gd
open PySem PySem.Spec PyProof.Rows L2
theorem low_of {ws : List Str} (h : ∀ w ∈ ws, isW w = true) : Low ws := fun w hw a ha => by
  have := h w hw
  simp only [isW, isT, Bool.and_eq_true, List.all_eq_true, low, decide_eq_true_eq] at this
  exact this.1.2 a ha
/-- the latest branch -/
def lat (ws : List Str) (t : Str) : Str := match sug ws t with
  | some o => ⟨#[(tl o).getD t.length 0]⟩
  | none => ""
theorem brs_mem {ws : List Str} {p : Str × Str} (h : p ∈ brs ws) : p.1 ∈ pfx ws ∧ 1 < (lets ws p.1).length ∧ p.2 = ofL (lets ws p.1) := by
  unfold brs at h
  obtain ⟨t, ht, rfl⟩ := List.mem_map.mp h
  obtain ⟨h1, h2⟩ := List.mem_filter.mp ht
  exact ⟨srt_mem.mp h1, of_decide_eq_true h2, rfl⟩
theorem sw_pre (o t : Str) : Txt.startswith o t = (tl t).isPrefixOf (tl o) := by
  rw [sw_take, Bool.eq_iff_iff, decide_eq_true_eq, List.isPrefixOf_iff_prefix]
  have e : tl (cutT o t.length) = (tl o).take (tl t).length := by rw [tl_cutT, show t.length = (tl t).length from TL.len_tl t]
  constructor
  · intro h
    rw [← h, e]
    exact List.take_prefix _ _
  · rintro ⟨r, hr⟩
    refine tl_inj ?_
    rw [e, ← hr, List.take_left]
/-- of words that begin with a text, some last one does -/
theorem sug_some {ws : List Str} {t : Str} {o : Str} (h : o ∈ ws) (p : (tl t).isPrefixOf (tl o) = true) : ∃ z, sug ws t = some z := by
  unfold sug
  cases e : ws.reverse.find? (fun o => Txt.startswith o t) with
  | some z => exact ⟨z, rfl⟩
  | none =>
    rw [List.find?_eq_none] at e
    exact absurd (by rw [sw_pre]; exact p) (e o (List.mem_reverse.mpr h))
theorem pfx_mem {ws : List Str} {t : Str} (h : t ∈ pfx ws) : ∃ w ∈ ws, (tl t).isPrefixOf (tl w) = true ∧ t.length < w.length := by
  have h : t ∈ dedT (ws.flatMap fun w => (List.range w.length).map (cutT w)) := h
  rw [dedT_mem, List.mem_flatMap] at h
  obtain ⟨w, hw, hm⟩ := h
  obtain ⟨l, hl, rfl⟩ := List.mem_map.mp hm
  have hl2 := List.mem_range.mp hl
  refine ⟨w, hw, ?_, by rw [cutT_len (Nat.le_of_lt hl2)]; exact hl2⟩
  rw [tl_cutT, List.isPrefixOf_iff_prefix]
  exact List.take_prefix _ _
theorem tl_app (a b : Str) : tl (a ++ b) = tl a ++ tl b := TL.tl_append a b
theorem prefix_le {a b : List Nat} (h : a <+: b) : a ≤ b := by
  obtain ⟨r, rfl⟩ := h
  rw [← List.not_lt]
  intro z
  induction a with
  | nil => cases r <;> cases z
  | cons x a ih =>
    rw [List.cons_append, List.cons_lt_cons_iff] at z
    rcases z with z | ⟨_, z⟩
    · exact absurd z (Nat.lt_irrefl _)
    · exact ih z
def pre (o t : Str) : Bool := (tl t).isPrefixOf (tl o)
theorem pre_iff {o t : Str} : pre o t = true ↔ tl t <+: tl o := List.isPrefixOf_iff_prefix
/-- one sign chosen behind each branching -/
def Choice (ws : List Str) (n : Nat) (st : List (Str × Str)) : Prop := st.length = n ∧ ∀ (i : Nat) (p s : Str × Str), (brs ws)[i]? = some p → st[i]? = some s → s.1 = p.1 ∧ ∃ a ∈ tl p.2, s.2 = ⟨#[a]⟩
abbrev IsSt (ws : List Str) (st : List (Str × Str)) : Prop := Choice ws (brs ws).length st
theorem IsSt.mem {ws : List Str} {st : List (Str × Str)} (h : IsSt ws st) (lo : Low ws) {q : Str × Str} (hq : q ∈ st) : ∃ p ∈ brs ws, q.1 = p.1 ∧ ∃ a, a ∈ tl p.2 ∧ q.2 = ⟨#[a]⟩ ∧ ∃ w ∈ ws, pre w (q.1 ++ q.2) = true := by
  obtain ⟨i, hi, e⟩ := List.getElem_of_mem hq
  have e2 : st[i]? = some q := by rw [List.getElem?_eq_getElem hi, e]
  have e1 := List.getElem?_eq_getElem (show i < (brs ws).length by rw [← h.1]; exact hi)
  obtain ⟨f1, a, ha, f2⟩ := h.2 i _ _ e1 e2
  have hm := List.mem_of_getElem? e1
  refine ⟨_, hm, f1, a, ha, f2, ?_⟩
  obtain ⟨_, _, h3⟩ := brs_mem hm
  rw [h3, tl_ofL, lets_mem lo, evs_mem] at ha
  obtain ⟨w, hw, hp⟩ := ha
  exact ⟨w, hw, by rw [f1, f2]; unfold pre; rw [tl_app]; exact hp⟩
end Gd
namespace Gd
open PySem PySem.Spec PyProof.Rows L2
end Gd
namespace Gd
open PySem PySem.Spec PyProof.Rows L2
end Gd
namespace Gd
open PySem PySem.Spec PyProof.Rows L2
def cnt (ws : List Str) (t : Str) : Nat := (ws.filter fun o => pre o t).length
/-- the numbers of keys -/
def pk (ws : List Str) (x : Str) : List Nat := (((brs ws).map (·.1)).filter fun t => pre x t).map fun t => t.length + 2
end Gd
namespace Gd
open PySem PySem.Spec PyProof.Rows L2
def repO (n : Nat) : List W → Option (List W × List PyData)
  | [] => none
  | u :: us => match u with
    | .o xs => some (.c n :: us, xs)
    | u => (repO n us).map fun r => (u :: r.1, r.2)
section
variable {K : PySem.W.Frag} {w : World} {B G G' G'' G0 : Addr → Prop} {ρ ρ' ρ'' ρ0 : List Addr} {H H' H'' H0 : Hp} {c c' c1 : Cs} {e e' : Ev} {v vx vy : V} {u u2 x y : W}
variable {Q : W → Cs → Prop} {t : TA} {sp : SpV}
theorem repO_sh (X : Hx B G ρ c H) : ∀ {vs : List V} {us us2 : List W} {xs : List PyData}, Paired (Sh K w B G ρ H) vs us → Paired (Fr H0) vs us → repO c.length us = some (us2, xs) → us2.all W.noO = true →
    ∃ p, H0 p = none ∧ CellOk G H p (.l xs) ∧ p ∉ ρ ∧ ¬ G p ∧ ¬ B p ∧ Paired (Sh K w B G (ρ ++ [p]) H) vs us2
  | _, _, us2, xs, .nil, _, h, _ => by cases h
  | v :: vs, u :: us, us2, xs, .cons s t, .cons f g, h, hn => by
    have st : ∀ p, Stay B G ρ H G (ρ ++ [p]) H := fun p => ⟨fun _ _ _ h => h, fun _ _ _ h => h, fun _ h => h, [p], rfl⟩
    by_cases isO : ∃ zs, u = .o zs
    · obtain ⟨zs, rfl⟩ := isO
      have h2 : some (W.c c.length :: us, zs) = some (us2, xs) := h
      cases h2
      cases s with
      | o a r gg b n =>
        obtain ⟨p', e1, e2⟩ := f
        cases e1
        refine ⟨_, e2, .l a r, n, gg, b, .cons (.c ?_) (shs_stay (st _) ?_ t)⟩
        · rw [← X.len]; simp
        · rw [List.all_cons, Bool.and_eq_true] at hn; exact hn.2
    · have h2 : (repO c.length us).map (fun r => (u :: r.1, r.2)) = some (us2, xs) := by
        unfold repO at h
        split at h
        · exact absurd ⟨_, rfl⟩ isO
        · exact h
      obtain ⟨⟨us3, zs⟩, h3, h4⟩ := Option.map_eq_some_iff.mp h2
      cases h4
      rw [List.all_cons, Bool.and_eq_true] at hn
      obtain ⟨p, p1, p2, p3, p4, p5, p6⟩ := repO_sh X t g h3 hn.2
      exact ⟨p, p1, p2, p3, p4, p5, .cons ((st p).sh s hn.1) p6⟩
theorem v_callO {E0' : XK} (h : VA K w t e c fun us c1 => (∃ k us' x', fstC us = some k ∧ trs1 c1 k us = some us' ∧ c1[k]? = some x' ∧ sp us' [x'] fun u c' => u.res = true ∧ ∀ y, c' = [y] → Q u (c1.set k y)) ∨
    (∃ us2 xs us', repO c1.length us = some (us2, xs) ∧ us2.all W.noO = true ∧ trs1 (c1 ++ [.l xs]) c1.length us2 = some us' ∧ sp us' [.l xs] fun u c' => u.res = true ∧ ∀ y, c' = [y] → ∃ y', (c1 ++ [Cell.l xs]).set c1.length y = c1 ++ [y'] ∧ u.res = true ∧ Q u c1)) : VE K w (tCall (liftC K w sp) [] E0' t) e c Q := by
  intro B G ρ σ H T X S kt
  refine h B G ρ σ H _ X S fun us vs c1 G1 ρ1 H1 E1 X1 s1 f1 d1 q => ?_
  rw [List.append_nil]
  rcases q with ⟨k, us', x', _, hu, hx, q1⟩ | ⟨us2, xs, us', hr, hn, hu, q1⟩
  · exact lift1 kt E1 X1 s1 hu hx q1
  · obtain ⟨p, p1, p2, p3, p4, p5, p6⟩ := repO_sh X1 s1 f1 hr hn
    have X2 := X1.cell p2 p3 p4 p5
    have E2 := Ext.cell E1 p1
    refine lift1 (k := c1.length) (x' := .l xs) (Q := fun u c' => ∃ y', c' = c1 ++ [y'] ∧ u.res = true ∧ Q u c1) (fun u v c' G' ρ' H' E X s f ⟨y', ec, hres, qq⟩ => ?_) E2 X2 p6 hu (by simp) q1
    subst ec
    obtain ⟨ys, rfl, hy⟩ := E.pre
    obtain ⟨zs, hz, _⟩ := E1.pre
    have l1 : ρ.length ≤ c1.length := by rw [← X1.len, hz, List.length_append]; omega
    have tk : (ρ ++ ys).take c1.length = ρ ++ ys.take (c1.length - ρ.length) := by rw [List.take_append, List.take_of_length_le l1]
    have pt := paired_take c1.length X.cells
    rw [List.take_left' rfl, tk] at pt
    have sub : ∀ q, q ∈ ρ ++ ys.take (c1.length - ρ.length) → q ∈ ρ ++ ys := fun q h => by rw [← tk] at h; exact List.mem_of_mem_take h
    have X3 : Hx B G' (ρ ++ ys.take (c1.length - ρ.length)) c1 H' := ⟨by rw [← tk]; exact X.nd.sublist (List.take_sublist _ _), fun q h => X.av q (sub q h), fun q h => X.avb q (sub q h), X.live, X.liveb, pt⟩
    have E3 : Ext G ρ H G' (ρ ++ ys.take (c1.length - ρ.length)) H' := ⟨E.kp, E.tr, ⟨_, rfl, fun y h => hy y (List.mem_of_mem_take h)⟩, E.gr, E.nw⟩
    refine kt u v c1 G' _ H' E3 X3 ?_ f qq
    cases s with
    | d s => exact .d s
    | o a r g b n => exact .o a r g b fun z => n (sub _ z)
    | dm a r g => exact .dm a r g
    | od a r g b n => exact .od a r g b fun z => n (sub _ z)
    | _ => cases hres
theorem c1_cL {us us' : List W} {k : Nat} {x : Cell} {P : Nat → List W → Cell → Prop} {R : Prop} (h0 : fstC us = some k) (h1 : trs1 c k us = some us') (hx : c[k]? = some x) (q : P k us' x) : (∃ k us' x', fstC us = some k ∧ trs1 c k us = some us' ∧ c[k]? = some x' ∧ P k us' x') ∨ R := .inl ⟨k, us', x, h0, h1, hx, q⟩
theorem c1_cO {us us2 us' : List W} {xs : List PyData} {L : Prop} {P : List PyData → List W → Prop} (h0 : repO c1.length us = some (us2, xs)) (hn : us2.all W.noO = true) (h : trs1 (c1 ++ [.l xs]) c1.length us2 = some us') (q : P xs us') :
    L ∨ (∃ us2 xs us', repO c1.length us = some (us2, xs) ∧ us2.all W.noO = true ∧ trs1 (c1 ++ [.l xs]) c1.length us2 = some us' ∧ P xs us') := .inr ⟨us2, xs, us', h0, hn, h, q⟩
theorem so_c {a y : Cell} {R : Prop} (q : R) : ∃ y', (c1 ++ [a]).set c1.length y = c1 ++ [y'] ∧ R := ⟨y, by simp, q⟩
end
end Gd
namespace Gd
open PySem PySem.Spec PyProof.Rows L2
end Gd
namespace Gd
open PySem PySem.Spec PyProof.Rows L2
end Gd
namespace Gd
open PySem PySem.Spec PyProof.Rows L2
end Gd
namespace Gd
open PySem PySem.Spec PyProof.Rows L2
/-- a row of two texts that can be shown -/
def RowOk (s : Str × Str) : Prop := s.1.length ≤ 12 ∧ (∀ c ∈ tl s.1, c < 1114112) ∧ s.2.length ≤ 26 ∧ (∀ c ∈ tl s.2, c < 1114112)
theorem RowOk.str {s : Str × Str} (h : RowOk s) : PyData.strOk s.1 = true ∧ PyData.strOk s.2 = true := ⟨(strOk_iff _).mpr h.2.1, (strOk_iff _).mpr h.2.2.2⟩
theorem brD_lay {p : Str × Str} (h : RowOk p) : (brD p).canLay0 = true ∧ (brD p).depth ≤ 2 := by
  obtain ⟨h1, h2⟩ := h.str
  exact ⟨by simp [brD, PyData.canLay0, PyData.canLayAll0, h1, h2], by simp [brD, PyData.depth, PyData.depthAll]⟩
theorem shaped_rows {st : List (Str × Str)} (h : ∀ s ∈ st, RowOk s) : SeqAt.shaped (.list (st.map brD)) = true :=
  shaped_map _ _ fun p hp => ⟨(brD_lay (h p hp)).1, by have := (brD_lay (h p hp)).2; omega⟩
end Gd
namespace Gd
open PySem PySem.Spec PyProof.Rows L2
end Gd
namespace Gd
open PySem PySem.Spec PyProof.Rows L2
end Gd
namespace Gd
open PySem PySem.Spec PyProof.Rows L2
end Gd
namespace Gd
open PySem PySem.Spec PyProof.Rows L2
end Gd
namespace Gd
open PySem PySem.Spec PyProof.Rows L2
end Gd
namespace Gd
open PySem PySem.Spec PyProof.Rows L2
end Gd
namespace Gd
open PySem PySem.Spec PyProof.Rows L2
end Gd
namespace Gd
open PySem PySem.Spec PyProof.Rows L2
section
variable {K : PySem.W.Frag} {w : World} {c : Cs} {Q : W → Cs → Prop}
theorem w_split {a b : Str} (hb : (b.length == 0) = false) (hz : a.length + 2 ≤ sizeLine) (q : Q (.o ((Txt.split a b).map .str)) c) :
    VM K w (fun x xs H Q => ∃ a b, x = .str a ∧ xs = [.str b] ∧ (b.length == 0) = false ∧ a.length + 2 ≤ sizeLine ∧ rNewStrs (Txt.split a b) H Q) (.d (.str a)) [.d (.str b)] c Q := by
  intro B G0 ρ0 H0 G ρ H vx vs T E X sx fx ss fs k
  obtain ⟨v, rfl, s⟩ := v1 ss
  cases sx with
  | d q1 =>
    cases q1
    cases s with
    | d q2 =>
      cases q2
      exact ⟨a, b, rfl, rfl, hb, hz, fun p n => k.l E X n (dqL_strs _) q⟩
end
theorem tl_joinT (y : Str) (ws : List Str) : tl (Txt.join y ws) = TL.joinL (tl y) (ws.map tl) := by
  rw [TL.join_eq]
  exact TL.tl_join _ _
theorem len_sum {ws : List Str} (h : ∀ w ∈ ws, w.length ≤ 12) : (ws.map (·.length)).sum ≤ 12 * ws.length := by
  induction ws with
  | nil => simp
  | cons w ws ih =>
    have h1 := h w (by simp)
    have h2 := ih fun x hx => h x (by simp [hx])
    simp only [List.map_cons, List.sum_cons, List.length_cons]
    omega
end Gd
namespace Gd
open PySem PySem.Spec PyProof.Rows L2
/-- rows in order -/
def rowLt (p q : Str × Str) : Bool := if p.1 = q.1 then decide (tl p.2 < tl q.2) else decide (tl p.1 < tl q.1)
def rowMin (p : Str × Str) (ps : List (Str × Str)) : Str × Str := ps.foldl (fun a y => if rowLt y a = true then y else a) p
theorem rowMin_mem (p : Str × Str) : ∀ ps : List (Str × Str), rowMin p ps = p ∨ rowMin p ps ∈ ps := by
  intro ps
  unfold rowMin
  induction ps generalizing p with
  | nil => exact .inl rfl
  | cons q ps ih =>
    rw [List.foldl_cons]
    rcases ih (if rowLt q p = true then q else p) with h | h
    · rw [h]
      split
      · exact .inr (by simp)
      · exact .inl rfl
    · exact .inr (by simp [h])
end Gd
namespace Gd
open PySem PySem.Spec PyProof.Rows L2
theorem rowLt_iff {p q : Str × Str} : rowLt p q = true ↔ tl p.1 < tl q.1 ∨ (tl p.1 = tl q.1 ∧ tl p.2 < tl q.2) := by
  unfold rowLt
  by_cases e : p.1 = q.1
  · rw [if_pos e, decide_eq_true_eq, e]
    exact ⟨fun h => .inr ⟨rfl, h⟩, fun h => h.elim (fun h => absurd h (List.lt_irrefl _)) fun h => h.2⟩
  · rw [if_neg e, decide_eq_true_eq]
    exact ⟨.inl, fun h => h.elim id fun h => absurd (TL.ext_tl h.1) e⟩
/-- not after -/
def rowLe (p q : Str × Str) : Prop := tl p.1 < tl q.1 ∨ (tl p.1 = tl q.1 ∧ tl p.2 ≤ tl q.2)
theorem rowLe_of {p q : Str × Str} (h : ¬ rowLt q p = true) : rowLe p q := by
  rw [rowLt_iff] at h
  unfold rowLe
  rcases List.le_iff_lt_or_eq.mp (List.not_lt.mp fun z => h (.inl z)) with h1 | h1
  · exact .inl h1
  · exact .inr ⟨h1, List.not_lt.mp fun z => h (.inr ⟨h1.symm, z⟩)⟩
theorem rowLt_le {p q : Str × Str} (h : rowLt p q = true) : rowLe p q := by
  rw [rowLt_iff] at h
  rcases h with h | ⟨h1, h2⟩
  · exact .inl h
  · exact .inr ⟨h1, List.le_of_lt h2⟩
theorem rowLe_refl (p : Str × Str) : rowLe p p := .inr ⟨rfl, List.le_refl _⟩
theorem rowLe_trans {p q r : Str × Str} (h1 : rowLe p q) (h2 : rowLe q r) : rowLe p r := by
  rcases h1 with h1 | ⟨e1, h1⟩
  · rcases h2 with h2 | ⟨e2, h2⟩
    · exact .inl (List.lt_trans h1 h2)
    · exact .inl (by rw [← e2]; exact h1)
  · rcases h2 with h2 | ⟨e2, h2⟩
    · exact .inl (by rw [e1]; exact h2)
    · exact .inr ⟨e1.trans e2, List.le_trans h1 h2⟩
theorem rowLe_anti {p q : Str × Str} (h1 : rowLe p q) (h2 : rowLe q p) : p = q := by
  rcases h1 with h1 | ⟨e1, h1⟩
  · rcases h2 with h2 | ⟨e2, h2⟩
    · exact absurd h1 (List.lt_asymm h2)
    · rw [e2] at h1
      exact absurd h1 (List.lt_irrefl _)
  · rcases h2 with h2 | ⟨e2, h2⟩
    · rw [e1] at h2
      exact absurd h2 (List.lt_irrefl _)
    · exact Prod.ext (TL.ext_tl e1) (TL.ext_tl (List.le_antisymm h1 h2))
theorem rowMin_le : ∀ (ps : List (Str × Str)) (p : Str × Str), rowLe (rowMin p ps) p ∧ ∀ q ∈ ps, rowLe (rowMin p ps) q
  | [], p => ⟨rowLe_refl p, by simp⟩
  | q :: ps, p => by
    have e : rowMin p (q :: ps) = rowMin (if rowLt q p = true then q else p) ps := rfl
    rw [e]
    obtain ⟨h1, h2⟩ := rowMin_le ps (if rowLt q p = true then q else p)
    by_cases c : rowLt q p = true
    · rw [if_pos c] at h1 h2 ⊢
      refine ⟨rowLe_trans h1 (rowLt_le c), fun r hr => ?_⟩
      rcases List.mem_cons.mp hr with e | hr
      · rw [e]; exact h1
      · exact h2 r hr
    · rw [if_neg c] at h1 h2 ⊢
      refine ⟨h1, fun r hr => ?_⟩
      rcases List.mem_cons.mp hr with e | hr
      · rw [e]; exact rowLe_trans h1 (rowLe_of c)
      · exact h2 r hr
/-- all pairs of a word and a longer one -/
def isPair (a b : Str) : Bool := !decide (a = b) && Txt.startswith b a
def pairsAt (ws : List Str) (a : Str) : List (Str × Str) := (ws.filter (isPair a)).map fun b => (a, b)
def pairsOf (ws : List Str) : List (Str × Str) := ws.flatMap (pairsAt ws)
theorem pairs_mem {ws : List Str} {a b : Str} : (a, b) ∈ pairsOf ws ↔ a ∈ ws ∧ b ∈ ws ∧ isPair a b = true := by
  unfold pairsOf pairsAt
  rw [List.mem_flatMap]
  constructor
  · rintro ⟨x, hx, h⟩
    obtain ⟨y, hy, e⟩ := List.mem_map.mp h
    obtain ⟨h1, h2⟩ := List.mem_filter.mp hy
    obtain ⟨e1, e2⟩ := Prod.mk.inj e
    rw [← e1, ← e2]
    exact ⟨hx, h1, h2⟩
  · rintro ⟨h1, h2, h3⟩
    exact ⟨a, h1, List.mem_map.mpr ⟨b, List.mem_filter.mpr ⟨h2, h3⟩, rfl⟩⟩
theorem mid_pre : ∀ {x y b : List Nat}, ¬ y < x → ¬ b < y → x <+: b → x <+: y
  | [], y, b, _, _, _ => List.nil_prefix
  | c :: x, [], b, h, _, _ => absurd (List.Lex.nil) h
  | c :: x, d :: y, [], _, _, h3 => by
    obtain ⟨r, hr⟩ := h3
    simp at hr
  | c :: x, d :: y, e :: b, h1, h2, h3 => by
    rw [List.cons_prefix_cons] at h3
    obtain ⟨e1, h3⟩ := h3
    subst e1
    rw [List.cons_lt_cons_iff] at h1 h2
    have ecd : c = d := by
      rcases Nat.lt_trichotomy c d with z | z | z
      · exact absurd (.inl z) h2
      · exact z
      · exact absurd (.inl z) h1
    subst ecd
    rw [List.cons_prefix_cons]
    exact ⟨rfl, mid_pre (fun z => h1 (.inr ⟨rfl, z⟩)) (fun z => h2 (.inr ⟨rfl, z⟩)) h3⟩
theorem sw_iff {o t : Str} : Txt.startswith o t = true ↔ tl t <+: tl o := by
  rw [sw_pre, List.isPrefixOf_iff_prefix]
/-- what the neighbours tell -/
theorem adj_least : ∀ (S : List Str), (S.Pairwise fun a b => tl a < tl b) →
    (adj S = none → ∀ a ∈ S, ∀ b ∈ S, isPair a b = false) ∧ ∀ p, adj S = some p → p.1 ∈ S ∧ p.2 ∈ S ∧ isPair p.1 p.2 = true ∧ ∀ a ∈ S, ∀ b ∈ S, isPair a b = true → rowLe p (a, b)
  | [], _ => ⟨fun _ a ha => (nomatch ha), fun p h => (nomatch h)⟩
  | [x], _ => ⟨fun _ a ha b hb => (by
      rw [List.mem_singleton.mp ha, List.mem_singleton.mp hb]
      simp [isPair]), fun p h => (nomatch h)⟩
  | x :: y :: r, pw => by
    obtain ⟨h1, h2⟩ := List.pairwise_cons.mp pw
    obtain ⟨h3, h4⟩ := List.pairwise_cons.mp h2
    obtain ⟨i1, i2⟩ := adj_least (y :: r) h2
    have xy := h1 y (by simp)
    have yle : ∀ b ∈ y :: r, tl y ≤ tl b := fun b hb => by
      rcases List.mem_cons.mp hb with e | hb
      · rw [e]; exact List.le_refl _
      · exact List.le_of_lt (h3 b hb)
    by_cases c : Txt.startswith y x = true
    · have e : adj (x :: y :: r) = some (x, y) := by rw [adj, if_pos c]
      refine ⟨fun h => (by rw [e] at h; cases h), fun p h => ?_⟩
      rw [e] at h
      cases h
      have ne : x ≠ y := fun z => by rw [z] at xy; exact List.lt_irrefl _ xy
      refine ⟨by simp, by simp, by simp [isPair, ne, c], fun a ha b hb hp => ?_⟩
      rcases List.mem_cons.mp ha with ea | ha
      · rw [ea] at hp ⊢
        rcases List.mem_cons.mp hb with eb | hb
        · rw [eb] at hp
          simp [isPair] at hp
        · exact .inr ⟨rfl, yle b hb⟩
      · exact .inl (h1 a ha)
    · have e : adj (x :: y :: r) = adj (y :: r) := by rw [adj, if_neg c]
      have no : ∀ a ∈ x :: y :: r, ∀ b ∈ x :: y :: r, isPair a b = true → a ∈ y :: r ∧ b ∈ y :: r := fun a ha b hb hp => by
        unfold isPair at hp
        rw [Bool.and_eq_true, Bool.not_eq_true', decide_eq_false_iff_not, sw_iff] at hp
        obtain ⟨ne, pre⟩ := hp
        rcases List.mem_cons.mp ha with ea | ha
        · subst ea
          rcases List.mem_cons.mp hb with eb | hb
          · exact absurd eb.symm ne
          · exact absurd (sw_iff.mpr (mid_pre (List.lt_asymm xy) (List.not_lt.mpr (yle b hb)) pre)) c
        · rcases List.mem_cons.mp hb with eb | hb2
          · rw [eb] at pre
            have := prefix_le pre
            exact absurd (h1 a ha) (List.not_lt.mpr this)
          · exact ⟨ha, hb2⟩
      rw [e]
      refine ⟨fun h a ha b hb => ?_, fun p h => ?_⟩
      · rw [Bool.eq_false_iff]
        intro z
        obtain ⟨g1, g2⟩ := no a ha b hb z
        rw [i1 h a g1 b g2] at z
        cases z
      · obtain ⟨j1, j2, j3, j4⟩ := i2 p h
        refine ⟨List.mem_cons_of_mem _ j1, List.mem_cons_of_mem _ j2, j3, fun a ha b hb hp => ?_⟩
        obtain ⟨g1, g2⟩ := no a ha b hb hp
        exact j4 a g1 b g2 hp
def minP (ps : List (Str × Str)) : Option (Str × Str) := match ps with
  | [] => none
  | p :: ps => some (rowMin p ps)
theorem clash_min (ws : List Str) : clash ws = minP (pairsOf ws) := by
  unfold clash
  have pw : (srt (dedT ws)).Pairwise fun a b => tl a < tl b := by
    have h1 := srt_pw (dedT ws)
    have h2 : (srt (dedT ws)).Nodup := (srt_perm _).nodup_iff.mpr (dedT_nodup _)
    refine (h1.and h2).imp fun {a b} ⟨x, y⟩ => ?_
    rcases List.le_iff_lt_or_eq.mp (List.not_lt.mp x) with z | z
    · exact z
    · exact absurd (TL.ext_tl z) y
  have mem : ∀ x, x ∈ srt (dedT ws) ↔ x ∈ ws := fun x => by rw [srt_mem, dedT_mem]
  obtain ⟨h1, h2⟩ := adj_least _ pw
  cases e : adj (srt (dedT ws)) with
  | none =>
    have : pairsOf ws = [] := by
      rw [List.eq_nil_iff_forall_not_mem]
      rintro ⟨a, b⟩ hp
      obtain ⟨g1, g2, g3⟩ := pairs_mem.mp hp
      rw [h1 e a ((mem a).mpr g1) b ((mem b).mpr g2)] at g3
      cases g3
    rw [this]
    rfl
  | some p =>
    obtain ⟨j1, j2, j3, j4⟩ := h2 p e
    have hp : (p.1, p.2) ∈ pairsOf ws := pairs_mem.mpr ⟨(mem _).mp j1, (mem _).mp j2, j3⟩
    cases hps : pairsOf ws with
    | nil => rw [hps] at hp; cases hp
    | cons q qs =>
      show some p = some (rowMin q qs)
      congr 1
      obtain ⟨m1, m2⟩ := rowMin_le qs q
      have mm : rowMin q qs ∈ pairsOf ws := by
        rw [hps]
        rcases rowMin_mem q qs with h | h
        · rw [h]; simp
        · simp [h]
      refine rowLe_anti ?_ ?_
      · obtain ⟨g1, g2, g3⟩ := pairs_mem.mp (show ((rowMin q qs).1, (rowMin q qs).2) ∈ pairsOf ws from mm)
        exact j4 _ ((mem _).mpr g1) _ ((mem _).mpr g2) g3
      · rw [hps] at hp
        rcases List.mem_cons.mp hp with h | h
        · rw [show p = q from h]; exact m1
        · exact m2 _ h
end Gd
namespace Gd
open PySem PySem.Spec PyProof.Rows L2
/-- a sign of each row, in their order -/
inductive ChL : List (Str × Str) → List (Str × Str) → Prop
  | nil : ChL [] []
  | cons {p s : Str × Str} {rs st : List (Str × Str)} {a : Nat} (h : s = (p.1, ⟨#[a]⟩)) (m : a ∈ tl p.2) (t : ChL rs st) : ChL (p :: rs) (s :: st)
theorem ChL.len {rs st : List (Str × Str)} (h : ChL rs st) : rs.length = st.length := by
  induction h with
  | nil => rfl
  | cons _ _ _ ih => simp [ih]
theorem chL_of : ∀ {rs st : List (Str × Str)}, st.length = rs.length → (∀ (i : Nat) (p s : Str × Str), rs[i]? = some p → st[i]? = some s → s.1 = p.1 ∧ ∃ a ∈ tl p.2, s.2 = ⟨#[a]⟩) → ChL rs st
  | [], [], _, _ => .nil
  | [], _ :: _, h, _ => by simp at h
  | _ :: _, [], h, _ => by simp at h
  | p :: rs, s :: st, h, f => by
    obtain ⟨e1, a, ha, e2⟩ := f 0 p s rfl rfl
    exact .cons (Prod.ext e1 e2) ha (chL_of (by simpa using h) fun i p' s' h1 h2 => f (i + 1) p' s' (by simpa using h1) (by simpa using h2))
theorem IsSt.ch {ws : List Str} {st : List (Str × Str)} (h : IsSt ws st) : ChL (brs ws) st := chL_of h.1 h.2
end Gd
namespace Gd
open PySem PySem.Spec PyProof.Rows L2
end Gd
namespace Gd
open PySem PySem.Spec PyProof.Rows L2
end Gd
namespace Gd
open PySem PySem.Spec PyProof.Rows L2
end Gd
namespace Gd
open PySem PySem.Spec PyProof.Rows L2
end Gd
namespace Gd
open PySem PySem.Spec PyProof.Rows L2
end Gd
namespace Gd
open PySem PySem.Spec PyProof.Rows L2
end Gd
namespace Gd
open PySem PySem.Spec PyProof.Rows L2
end Gd
namespace Gd
open PySem PySem.Spec PyProof.Rows L2
structure GF (P : Program) (w : World) (K : PySem.W.Frag) (mg : Str → Option Value) (base : Heap) (k : Nat) (x : Str) (sp : Sp) : Prop where
  ex : ∃ (f : Addr) (fd : FuncData) (ps : List Str), mg x = some (.ref f) ∧ PySem.W.keepIn K (.ref f) = true ∧ Binds K fd ps [] ∧ FnOk P w K mg base CX0 k f fd ps sp
section
variable {X : Cx} {k j : Nat} {sp : Sp} {x : Str} {p pos : Pos} {e : Expr} {es : List Expr} {t : TA}
theorem pe_fc (cc : GF X.prog X.w X.K X.mg X.base k x sp) (hr : Room j X.A) (hk : k ≤ j) (hg : Gl X x) (ha : PA X (e :: es) t)
    (hdb : (x == ("__debug__" : Str)) = false := by decide) (he : starEach (e :: es) X.env = (false, eval e X.env) :: starEach es X.env := by rfl)
    (hpl : (backTo pos (starEach es X.env)).any (·.1) = false := by rfl) : PE X (.Call (.Name x p) (e :: es) [] pos) (tCall sp [] E0 t) := by
  obtain ⟨f, fd, ps, h1, h2, h3, h4⟩ := cc.ex
  exact pe_call h4 (hr.mono hk) hg h1 h2 h3 .nil pass0 ha hdb he hpl
end
section
variable {P : Program} {w : World} {K : PySem.W.Frag} {mg : Str → Option Value} {base : Heap} {k : Nat} {f : Addr} {fd : FuncData} {ps N : List Str}
theorem FnOk.mk' {sp : Sp} {x qual : Str} {st : Stmt} (F : Fun K x qual st f fd) (S : FnScope N ps (defScope st))
    (len : ∀ vs H Q E, sp vs H Q E → vs.length = ps.length)
    (body : ∀ (cdv : Value) (A : Around) (outer : List Env) (s : Shared) (H : Hp) (vs : List V) (Q : VK) (E : XK),
      Room k (A.deeper (envOfC qual (defScope st) s.heap.objs.size f cdv)) → sp vs H Q E →
      ∃ t, PSs (cxOf CX0 P w K mg base N qual (defScope st) f cdv A outer s H E).nox (defBody st) t ∧
        t { nx := fun _ H' => Q .non H', rt := Q } (start N vs) H) :
    FnOk P w K mg base CX0 (k + 1) f fd ps sp := by
  obtain ⟨oc, od, kV, doc, pm, an, cdv, ct, osl, rfl, lk, hcd⟩ := F.ex
  refine ⟨len, fun A outer s H args us vs Q E hr e0 hb r hsp => ?_⟩
  have hl := len _ _ _ _ hsp
  have hK : K.In s.heap := e0.mod.kin.keeps fun b o e => (e0.bs b o e).1
  have hlim : s.heap.NoLimit := e0.mod.nolimit.keeps fun b o e => (e0.bs b o e).1
  have kinds : ∀ y ∈ ps.zip us, (defScope st).names.lookup y.1 = some .local ∨
      ((defScope st).names.lookup y.1 = some .cell ∧
        ((cellsFrom (s.heap.objs.size + 1) (defScope st).names []).lookup y.1).isSome = true) := by
    rintro ⟨n, v⟩ hy
    rcases S.par n (List.of_mem_zip hy).1 with q | q
    · exact .inl q
    · exact .inr ⟨q, PySem.W.cellsFrom_some _ _ _ (.inl q)⟩
  refine codeAny_call_function hr.depth (hK _ _ lk) rfl S.co S.gen rfl (PySem.W.codeRec_of hK hcd) (hb _ _ _ _ ?_)
  refine wpAny_newFunctionEnv_cells S.kind kinds fun env he s1 x => ?_
  subst he
  refine ⟨hlim.keeps x.toInCall.keep, codeAny_func ?_⟩
  obtain ⟨t, ht, hq⟩ := body cdv A outer s H vs Q E (hr.deeper _) hsp
  have I := inv_start (CX := CX0) (P := P) (mg := mg) (E := E) S hr.hd e0 hl r x
  refine wpAny_mono (ht.nox.run [] s1 (start N vs) H _ I hq) (fun fl s' hs => ?_) fun e s' hs => hs
  cases fl with
  | ret u =>
    obtain ⟨v, σ', H', J, rv, q⟩ := hs
    exact ⟨v, H', J.os, J.bare, J.base, J.hok, rv, q⟩
  | next =>
    obtain ⟨σ', H', J, q⟩ := hs
    exact ⟨V.non, H', J.os, J.bare, J.base, J.hok, rfl, q⟩
  | brk =>
    obtain ⟨_, _, _, q⟩ := hs
    exact False.elim q
  | cont =>
    obtain ⟨_, _, _, q⟩ := hs
    exact False.elim q
theorem FnOk.v {sp : SpV} {x qual : Str} {st : Stmt} (F : Fun K x qual st f fd) (S : FnScope N ps (defScope st))
    (len : ∀ us c Q, sp us c Q → us.length = ps.length)
    (body : ∀ (cdv : Value) (A : Around) (outer : List Env) (s : Shared) (H : Hp) (E : XK) (us : List W) (c : Cs) (Q : W → Cs → Prop),
      Room k (A.deeper (envOfC qual (defScope st) s.heap.objs.size f cdv)) → sp us c Q →
      ∃ t, PSs (cxOf CX0 P w K mg base N qual (defScope st) f cdv A outer s H E).nox (defBody st) t ∧
        VS K w t (startE N us) c { nx := fun _ c' => rtn c.length Q (.d .none) c', rt := rtn c.length Q }) :
    FnOk P w K mg base CX0 (k + 1) f fd ps (lift K w sp) := by
  refine FnOk.mk' F S (fun vs H Q E h => ?_) (fun cdv A outer s H vs T E hr h => ?_)
  · obtain ⟨B, G, ρ, c, us, Q, X, sh, no, h, _⟩ := h
    rw [Paired.length sh]
    exact len us c Q h
  · obtain ⟨B, G, ρ, c, us, Q, X, sh, no, h, fin⟩ := h
    obtain ⟨t, h1, h2⟩ := body cdv A outer s H E us c Q hr h
    have kt := kt_rtn c.length X.len fin
    refine ⟨t, h1, h2 B G ρ (L2.start N vs) H _ X (sl_start sh no) ⟨fun e' c' σ' G' ρ' H' E' X' S' q => ?_, kt, fun _ _ _ _ _ _ _ _ _ q => q, fun _ _ _ _ _ _ _ _ _ q => q, fun _ _ _ _ _ _ _ _ _ _ _ _ _ q => q.elim⟩⟩
    exact kt _ _ _ _ _ _ E' X' (.d .non) trivial q
end
end Gd
namespace Gd
open PySem PySem.Spec PyProof.Rows L2
end Gd
namespace Gd
open PySem PySem.Spec PyProof.Rows L2
end Gd
namespace Gd
open PySem PySem.Spec PyProof.Rows L2
end Gd
namespace Gd
open PySem PySem.Spec PyProof.Rows L2
def keyI (e : Int × Value) : Int := match e.2 with
  | .int x _ => x
  | _ => 0
def GoodI (w : World) (e : Int × Value) : Prop := ∃ x tk, e.2 = Value.int x tk ∧ e.1 = hashInt x
/-- the set of texts at a: ks its members, in some order, each once -/
def SetI (w : World) (h : Heap) (a : Addr) (ks : List Int) : Prop :=
  ∃ o es ep t, h.get? a = some o ∧ o.ExactSet ∧ o.data = .set es ep t ∧ (∀ e ∈ es.toList, GoodI w e) ∧
    (es.toList.map keyI).Perm ks ∧ ks.Nodup ∧ es.size < scanBound ∧ t.fits es.size = true ∧
    Ris t.place.toList ∧ (w.params.followText "set-order" = true ∨ t.led = true)
section
variable {P : Program} {w : World} {A : Around} {E : Value → Shared → Prop} {s : Shared} {h h' : Heap} {a : Addr} {ks : List Int}
theorem SetI.at (R : SetI w h a ks) (k : ∀ o, h.get? a = some o → h'.get? a = some o) : SetI w h' a ks := by
  obtain ⟨o, es, ep, t, ho, r⟩ := R
  exact ⟨o, es, ep, t, k o ho, r⟩
end
end Gd
namespace Gd
open PySem PySem.Spec PyProof.Rows L2
def Lay (par : Str → Option Str) (r : List Str) : Prop := r.Pairwise fun y x => par x ≠ some y
instance (par : Str → Option Str) (r : List Str) : Decidable (Lay par r) := inferInstanceAs (Decidable (List.Pairwise _ _))
variable {par : Str → Option Str} {ws : List Str}
end Gd
namespace Gd
open PySem PySem.Spec PyProof.Rows L2
/-- from here on the dict changes no more -/
def tFrz (t : TE) : TE := fun σ H Q => t σ H fun v H1 => ∃ a kvs, v = .ref a ∧ H1 a = some (.dK kvs) ∧ ∀ od, Q v (upd H1 a (.frz od (.dK kvs)))
theorem PE.frz {X : Cx} {ex : Expr} {t : TE} (h : PE X ex t) : PE X ex (tFrz t) := by
  refine ⟨fun pins s σ H Q I q => ?_⟩
  refine thn (h.run pins s σ H _ I q) fun u s1 ⟨v, H1, I1, rv, a, kvs, ev, ha, q1⟩ => ?_
  subst ev
  obtain ⟨od, I2⟩ := I1.lock ha trivial
  exact ⟨_, _, I2, rv, q1 od⟩
end Gd
namespace Gd
open PySem PySem.Spec PyProof.Rows L2
end Gd
namespace Gd
open PySem PySem.Spec PyProof.Rows L2
end Gd
namespace Gd
open PySem PySem.Spec PyProof.Rows L2
end Gd
namespace Gd
open PySem PySem.Spec PyProof.Rows L2
end Gd
namespace Gd
open PySem PySem.Spec PyProof.Rows L2
end Gd
namespace Gd
open PySem PySem.Spec PyProof.Rows L2
end Gd
namespace Gd
open PySem PySem.Spec PyProof.Rows L2
end Gd
namespace Gd
open PySem PySem.Spec PyProof.Rows L2
end Gd
namespace Gd
open PySem PySem.Spec PyProof.Rows L2
section
variable {K : PySem.W.Frag} {w : World} {B G G' G'' G0 : Addr → Prop} {ρ ρ' ρ'' ρ0 : List Addr} {H H' H'' H0 : Hp} {c c' : Cs} {σ : L2.St} {e e' : Ev}
variable {Q : W → Cs → Prop} {te1 te : TE} {t : TA} {i j : Nat} {ws ws1 : List Nat}
/-- D stands apart, a set -/
structure Apt (w : World) (B : Addr → Prop) (G1 : Addr → Prop) (ρ1 : List Addr) (H1 : Hp) (c1 : Cs) (D : Addr) (L : List Str) (G' : Addr → Prop) (ρ' : List Addr) (H' : Hp) : Prop where
  ext : Ext G1 ρ1 H1 G' ρ' H'
  hx : Hx B G' ρ' c1 H'
  at_ : H' D = some (SetTO w D (dedT L))
  ng : ¬ G' D
  nb : ¬ B D
  nr : D ∉ ρ'
theorem Apt.go {G1 : Addr → Prop} {ρ1 : List Addr} {H1 : Hp} {D : Addr} {L : List Str} (a : Apt w B G1 ρ1 H1 c D L G ρ H) (E : Ext G ρ H G' ρ' H') (X : Hx B G' ρ' c H') : Apt w B G1 ρ1 H1 c D L G' ρ' H' :=
  ⟨a.ext.trans E, X, E.kp _ _ a.at_ a.nr, fun z => (E.nw _ z).elim a.ng fun z => (by rw [a.at_] at z; cases z), a.nb, E.nin a.at_ a.nr⟩
def evS (nx : Str → Nat) (f : Str → Nat → Str) (xs : List Str) : List Str := xs.flatMap fun x => (List.range (nx x)).map (f x)
end
end Gd
namespace Gd
open PySem PySem.Spec PyProof.Rows L2
variable {b g : List Str}
def chg (b g : List Str) : List Str := ((brs g).filter fun p => !decide (lat b p.1 = lat g p.1)).map (·.1)
def evN (b g : List Str) : List Str := evS (fun u => u.length + 1) (fun u l => (sug g (cutT u l)).getD "") (chg b g)
def needN (b g : List Str) : List Str := srt (dedT (evN b g))
theorem chg_mem {u : Str} : u ∈ chg b g ↔ u ∈ (brs g).map (·.1) ∧ lat b u ≠ lat g u := by
  unfold chg
  rw [List.mem_map, List.mem_map]
  constructor
  · rintro ⟨p, hp, rfl⟩
    obtain ⟨h1, h2⟩ := List.mem_filter.mp hp
    exact ⟨⟨p, h1, rfl⟩, by simpa using h2⟩
  · rintro ⟨⟨p, hp, rfl⟩, h⟩
    exact ⟨p, List.mem_filter.mpr ⟨hp, by simpa using h⟩, rfl⟩
theorem br_word {u : Str} (h : u ∈ (brs g).map (·.1)) : ∃ w ∈ g, pre w u = true := by
  obtain ⟨p, hp, rfl⟩ := List.mem_map.mp h
  obtain ⟨w, hw, h2, _⟩ := pfx_mem (brs_mem hp).1
  exact ⟨w, hw, h2⟩
theorem pre_trans {w u t : Str} (h : pre w u = true) (k : tl t <+: tl u) : pre w t = true := by
  rw [pre_iff] at *
  exact k.trans h
theorem cut_pre (u : Str) (l : Nat) : tl (cutT u l) <+: tl u := by
  rw [tl_cutT]
  exact List.take_prefix _ _
theorem sug_ex {ws : List Str} {w t : Str} (h : w ∈ ws) (p : pre w t = true) : ∃ z, sug ws t = some z := sug_some h p
theorem need_mem {w : Str} : w ∈ needN b g ↔ ∃ u ∈ chg b g, ∃ l, l ≤ u.length ∧ sug g (cutT u l) = some w := by
  unfold needN evN evS
  rw [srt_mem, dedT_mem, List.mem_flatMap]
  constructor
  · rintro ⟨u, hu, h⟩
    obtain ⟨l, hl, e⟩ := List.mem_map.mp h
    have hl : l < u.length + 1 := List.mem_range.mp hl
    have e : (sug g (cutT u l)).getD "" = w := e
    obtain ⟨x, hx, px⟩ := br_word (chg_mem.mp hu).1
    obtain ⟨z, hz⟩ := sug_ex hx (pre_trans px (cut_pre u l))
    rw [hz] at e
    exact ⟨u, hu, l, by omega, by rw [hz, ← e]; rfl⟩
  · rintro ⟨u, hu, l, hl, e⟩
    exact ⟨u, hu, List.mem_map.mpr ⟨l, List.mem_range.mpr (by show l < u.length + 1; omega), by show (sug g (cutT u l)).getD "" = w; rw [e]; rfl⟩⟩
theorem need_sub {w : Str} (h : w ∈ needN b g) : w ∈ g := by
  obtain ⟨u, _, l, _, e⟩ := need_mem.mp h
  exact sug_mem e
end Gd
namespace Gd
open PySem PySem.Spec PyProof.Rows L2
variable {b g : List Str}
/-- a shortest list -/
structure Sho (b g r : List Str) : Prop where
  p : r.Perm (needN b g)
  L : Lay (blk g) r
theorem Sho.sub {r : List Str} (h : Sho b g r) (pm : b.Perm g) : ∀ x ∈ r, x ∈ b := fun x hx => pm.mem_iff.mpr (need_sub (h.p.mem_iff.mp hx))
end Gd
namespace Gd
open PySem PySem.Spec PyProof.Rows L2
end Gd
namespace Gd
open PySem PySem.Spec PyProof.Rows L2
end Gd
namespace Gd
open PySem PySem.Spec PyProof.Rows L2
end Gd
namespace Gd
open PySem PySem.Spec PyProof.Rows L2
open Sem (wp)
open AutoSeq1 (wpAny_loadPart')
end Gd
namespace Gd
open PySem PySem.Spec PyProof.Rows L2
end Gd
namespace Gd
open PySem PySem.Spec PyProof.Rows L2
end Gd
namespace Gd
open PySem PySem.Spec PyProof.Rows L2
section
variable {K : PySem.W.Frag} {w : World} {B G G' G'' G0 : Addr → Prop} {ρ ρ' ρ'' ρ0 : List Addr} {H H' H'' H0 : Hp} {c c' : Cs} {σ : L2.St} {e e' : Ev} {v vx vy : V} {u u2 x y : W}
variable {Q : W → Cs → Prop} {D : DV} {Dh : Ends} {g : TG} {t : TA} {te tk tv td ty : TE} {tt : TT} {ts : TS} {ws : List Nat} {k : Nat} {o : Obj} {vs : List (Key × V)} {kvs : List (Key × PyData)}
def dropG (kvs : List (Key × PyData)) (k : Key) : List (Key × PyData) := kvs.filter fun kv => decide (kv.1 ≠ k)
theorem KR.drop {vs : List (Key × V)} {kvs : List (Key × PyData)} (r : KR G H vs kvs) (k : Key) : KR G H (dropK vs k) (dropG kvs k) := by
  unfold dropK dropG
  have r2 : Paired (fun (a : Key × V) (b : Key × PyData) => a.1 = b.1 ∧ Dq G H a.2 b.2) vs kvs := r
  clear r
  show Paired (fun (a : Key × V) (b : Key × PyData) => a.1 = b.1 ∧ Dq G H a.2 b.2) _ _
  induction r2 with
  | nil => exact .nil
  | @cons a b as bs q t ih =>
    rw [List.filter_cons, List.filter_cons, q.1]
    by_cases z : b.1 = k
    · rw [if_neg (by simp [z]), if_neg (by simp [z])]; exact ih
    · rw [if_pos (by simp [z]), if_pos (by simp [z])]; exact .cons q ih
end
end Gd
namespace Gd
open PySem PySem.Spec PyProof.Rows L2
end Gd
namespace Gd
open PySem PySem.Spec PyProof.Rows L2
end Gd
namespace Gd
open PySem PySem.Spec PyProof.Rows L2
/-- the cells of c at ks -/
def pickC (c : Cs) (ks : List Nat) : Cs := ks.filterMap fun k => c[k]?
end Gd
namespace Gd
open PySem PySem.Spec PyProof.Rows L2
end Gd
namespace Gd
open PySem PySem.Spec PyProof.Rows L2
end Gd
namespace Gd
open PySem PySem.Spec PyProof.Rows L2
end Gd
namespace Gd
open PySem PySem.Spec PyProof.Rows L2
/-- the cells of c at ks are cs -/
structure ObAt (c : Cs) (ks : List Nat) (cs : Cs) : Prop where
  nd : ks.Nodup
  bd : ∀ k ∈ ks, k < c.length
  at_ : pickC c ks = cs
theorem pickC_ext {c c' : Cs} : ∀ {ks : List Nat}, (∀ k ∈ ks, c'[k]? = c[k]?) → pickC c' ks = pickC c ks
  | [], _ => rfl
  | k :: ks, h => by
    unfold pickC
    rw [List.filterMap_cons, List.filterMap_cons, h k (by simp)]
    have := pickC_ext (c := c) (c' := c') (ks := ks) fun j hj => h j (by simp [hj])
    unfold pickC at this
    rw [this]
section
variable {c cs cs' new : Cs} {ks : List Nat}
theorem ObAt.app (O : ObAt c ks cs) (new : Cs) : ObAt (c ++ new) ks cs :=
  ⟨O.nd, fun k hk => by rw [List.length_append]; have := O.bd k hk; omega, by
    rw [← O.at_]
    exact pickC_ext fun k hk => List.getElem?_append_left (O.bd k hk)⟩
theorem ObAt.set (O : ObAt c ks cs) {j : Nat} (n : j ∉ ks) (x : Cell) : ObAt (c.set j x) ks cs :=
  ⟨O.nd, fun k hk => by rw [List.length_set]; exact O.bd k hk, by
    rw [← O.at_]
    exact pickC_ext fun k hk => List.getElem?_set_ne fun z => n (by rw [z]; exact hk)⟩
end
end Gd
namespace Gd
open PySem PySem.Spec PyProof.Rows L2
end Gd
namespace Gd
open PySem PySem.Spec PyProof.Rows L2
end Gd
namespace Gd
open PySem PySem.Spec PyProof.Rows L2
def tDNewD : TE := tDNewK
theorem PE.as_dd {X : Cx} {e : Expr} (h : PE X e tDNewK) : PE X e tDNewD := h
section
variable {K : PySem.W.Frag} {w : World} {c : Cs} {e : Ev} {Q : W → Cs → Prop}
theorem v_dnewD (q : Q (.d (.dict [])) c) : VE K w tDNewD e c Q := by
  intro B G ρ σ H T X S k p n
  exact k _ _ _ _ _ _ ((Ext.new n).data n) ((X.new n).data (by rw [upd_same]; simp) fun z => X.trk z n) (.d (.d0 (.inr rfl) upd_same)) trivial q
end
end Gd
theorem L2H.RoomH.units {k : Nat} {A : PySem.Around} (r : L2H.RoomH k A) : A.units + 64 < PySem.cLine := by have := r.un; omega
namespace Gd
open PySem PySem.Spec PyProof.Rows L2
/-- values in, values out, or an exception of the class at C with a payload -/
abbrev SpX := List W → Cs → (W → Cs → Prop) → (Addr → Option (Str × PyData) → Prop) → Prop
def liftX (K : PySem.W.Frag) (w : World) (sp : SpX) : Sp := fun vs H T E => ∃ B G ρ c us Q QX, Hx B G ρ c H ∧ Paired (Sh K w B G ρ H) vs us ∧ (∀ u ∈ us, u.noO = true) ∧ sp us c Q QX ∧
  (∀ u c', Q u c' → ∀ v G' H', Ext G ρ H G' ρ H' → Hx B G' ρ c' H' → Sh K w B G' ρ H' v u → Fr H v u → T v H') ∧
  ∀ C z, QX C z → ∀ d c' G' H', Ext G ρ H G' ρ H' → Hx B G' ρ c' H' → Xd G' H' d z → E (.ref C) d H'
section
variable {P : Program} {w : World} {K : PySem.W.Frag} {mg : Str → Option Value} {base : Heap} {k : Nat} {f : Addr} {fd : FuncData} {ps N : List Str} {CX : CXT}
theorem FnOk.mkX {sp : Sp} {x qual : Str} {st : Stmt} (F : Fun K x qual st f fd) (S : FnScope N ps (defScope st))
    (len : ∀ vs H Q E, sp vs H Q E → vs.length = ps.length)
    (body : ∀ (cdv : Value) (A : Around) (outer : List Env) (s : Shared) (H : Hp) (vs : List V) (Q : VK) (E : XK),
      Room k (A.deeper (envOfC qual (defScope st) s.heap.objs.size f cdv)) → sp vs H Q E →
      ∃ t, PSs (cxOf CX P w K mg base N qual (defScope st) f cdv A outer s H E) (defBody st) t ∧
        t { nx := fun _ H' => Q .non H', rt := Q } (start N vs) H) :
    FnOk P w K mg base CX (k + 1) f fd ps sp := by
  obtain ⟨oc, od, kV, doc, pm, an, cdv, ct, osl, rfl, lk, hcd⟩ := F.ex
  refine ⟨len, fun A outer s H args us vs Q E hr e0 hb r hsp => ?_⟩
  have hl := len _ _ _ _ hsp
  have hK : K.In s.heap := e0.mod.kin.keeps fun b o e => (e0.bs b o e).1
  have hlim : s.heap.NoLimit := e0.mod.nolimit.keeps fun b o e => (e0.bs b o e).1
  have kinds : ∀ y ∈ ps.zip us, (defScope st).names.lookup y.1 = some .local ∨
      ((defScope st).names.lookup y.1 = some .cell ∧
        ((cellsFrom (s.heap.objs.size + 1) (defScope st).names []).lookup y.1).isSome = true) := by
    rintro ⟨n, v⟩ hy
    rcases S.par n (List.of_mem_zip hy).1 with q | q
    · exact .inl q
    · exact .inr ⟨q, PySem.W.cellsFrom_some _ _ _ (.inl q)⟩
  refine codeAny_call_function hr.depth (hK _ _ lk) rfl S.co S.gen rfl (PySem.W.codeRec_of hK hcd) (hb _ _ _ _ ?_)
  refine wpAny_newFunctionEnv_cells S.kind kinds fun env he s1 x => ?_
  subst he
  refine ⟨hlim.keeps x.toInCall.keep, codeAny_func ?_⟩
  obtain ⟨t, ht, hq⟩ := body cdv A outer s H vs Q E (hr.deeper _) hsp
  have I := inv_start (CX := CX) (P := P) (mg := mg) (E := E) S hr.hd e0 hl r x
  refine wpAny_mono (ht.run [] s1 (start N vs) H _ I hq) (fun fl s' hs => ?_) fun e s' hs => hs
  cases fl with
  | ret u =>
    obtain ⟨v, σ', H', J, rv, q⟩ := hs
    exact ⟨v, H', J.os, J.bare, J.base, J.hok, rv, q⟩
  | next =>
    obtain ⟨σ', H', J, q⟩ := hs
    exact ⟨V.non, H', J.os, J.bare, J.base, J.hok, rfl, q⟩
  | brk =>
    obtain ⟨_, _, _, q⟩ := hs
    exact False.elim q
  | cont =>
    obtain ⟨_, _, _, q⟩ := hs
    exact False.elim q
/-- without the cells made since -/
theorem ext_take {B G G' : Addr → Prop} {ρ ρ' : List Addr} {H H' : Hp} {c' : Cs} (E : Ext G ρ H G' ρ' H') (X : Hx B G' ρ' c' H') : Ext G ρ H G' ρ H' ∧ Hx B G' ρ (c'.take ρ.length) H' := by
  obtain ⟨ys, rfl, hy⟩ := E.pre
  have tk : (ρ ++ ys).take ρ.length = ρ := by rw [List.take_left]
  refine ⟨⟨E.kp, E.tr, ⟨[], by simp, by simp⟩, E.gr, E.nw⟩, ?_⟩
  have pt := paired_take ρ.length X.cells
  rw [tk] at pt
  exact ⟨(List.nodup_append.mp X.nd).1, fun p hp => X.av p (by simp [hp]), fun p hp => X.avb p (by simp [hp]), X.live, X.liveb, pt⟩
abbrev WEx (E : XK) : WX := fun cls d _ H => E cls d H
theorem tk_of {qual : Str} {scope : Scope} {cdv : Value} {A : Around} {outer : List Env} {s : Shared} {H : Hp} {E : XK} :
    L2N.Takes (cxOf (L2N.CX P w) P w K mg base N qual scope f cdv A outer s H E) (WEx E) := L2N.takes_of rfl rfl rfl rfl
/-- a def that may raise -/
theorem FnOk.vX {sp : SpX} {x qual : Str} {st : Stmt} (F : Fun K x qual st f fd) (S : FnScope N ps (defScope st))
    (len : ∀ us c Q QX, sp us c Q QX → us.length = ps.length)
    (body : ∀ (cdv : Value) (A : Around) (outer : List Env) (s : Shared) (H : Hp) (E : XK) (us : List W) (c : Cs) (Q : W → Cs → Prop) (QX : Addr → Option (Str × PyData) → Prop),
      Room k (A.deeper (envOfC qual (defScope st) s.heap.objs.size f cdv)) → sp us c Q QX →
      ∃ t, PSs (cxOf (L2N.CX P w) P w K mg base N qual (defScope st) f cdv A outer s H E) (defBody st) t ∧
        VS K w t (startE N us) c { nx := fun _ c' => rtn c.length Q (.d .none) c', rt := rtn c.length Q, xx := fun C z _ _ => QX C z, W := WEx E }) :
    FnOk P w K mg base (L2N.CX P w) (k + 1) f fd ps (liftX K w sp) := by
  refine FnOk.mkX F S (fun vs H Q E h => ?_) (fun cdv A outer s H vs T E hr h => ?_)
  · obtain ⟨B, G, ρ, c, us, Q, QX, X, sh, no, h, _⟩ := h
    rw [Paired.length sh]
    exact len us c Q QX h
  · obtain ⟨B, G, ρ, c, us, Q, QX, X, sh, no, h, fin, finX⟩ := h
    obtain ⟨t, h1, h2⟩ := body cdv A outer s H E us c Q QX hr h
    have kt := kt_rtn c.length X.len fin
    refine ⟨t, h1, h2 B G ρ (L2.start N vs) H _ X (sl_start sh no) ⟨fun e' c' σ' G' ρ' H' E' X' S' q => ?_, kt, fun _ _ _ _ _ _ _ _ _ q => q, fun _ _ _ _ _ _ _ _ _ q => q, fun C d z e' c' σ' G' ρ' H' E' X' S' xd q => ?_⟩⟩
    · exact kt _ _ _ _ _ _ E' X' (.d .non) trivial q
    · obtain ⟨E2, X2⟩ := ext_take E' X'
      exact finX C z q d _ G' H' E2 X2 xd
end
structure GX (P : Program) (w : World) (K : PySem.W.Frag) (mg : Str → Option Value) (base : Heap) (k : Nat) (x : Str) (sp : Sp) : Prop where
  ex : ∃ (f : Addr) (fd : FuncData) (ps : List Str), mg x = some (.ref f) ∧ PySem.W.keepIn K (.ref f) = true ∧ Binds K fd ps [] ∧ FnOk P w K mg base (L2N.CX P w) k f fd ps sp
def tCallX (sp : Sp) (W : WX) (t : TA) : TE := tCallS sp (WE W) t
section
variable {X : Cx} {k j : Nat} {sp : Sp} {x : Str} {p pos : Pos} {e : Expr} {es : List Expr} {t : TA} {W : WX}
theorem pe_xc (cc : GX X.prog X.w X.K X.mg X.base k x sp) (tk : L2N.Takes X W) (hr : Room j X.A) (hk : k ≤ j) (hg : Gl X x) (ha : PA X (e :: es) t)
    (hdb : (x == ("__debug__" : Str)) = false := by decide) (he : starEach (e :: es) X.env = (false, eval e X.env) :: starEach es X.env := by rfl)
    (hpl : (backTo pos (starEach es X.env)).any (·.1) = false := by rfl) : PE X (.Call (.Name x p) (e :: es) [] pos) (tCallX sp W t) := by
  obtain ⟨f, fd, ps, h1, h2, h3, h4⟩ := cc.ex
  exact pe_callS h4 (hr.mono hk) hg h1 h2 h3 (fun σ => L2N.passAt tk σ) ha hdb he hpl
end
structure XCls (K : PySem.W.Frag) (mg : Str → Option Value) (x : Str) (C : Addr) : Prop where
  gl : mg x = some (.ref C)
  ein : PySem.W.excIn K C [.type "ValueError", .type "Exception", .type "BaseException", .type "object"] "ValueError.__new__" = true
  kp : PySem.W.keepIn K (.ref C) = true
  sb : PySem.W.subIn K (.ref C) (.type "BaseException") = some true
  ty : PySem.W.typeIn K (.ref C) = some (.type "type")
def tRaise (C : Addr) (W : WX) : TS := fun _ σ H => W (.ref C) none σ H
theorem ps_rs {X : Cx} {W : WX} {C : Addr} {x m : Str} {j : Nat} {p p2 pos pos2 : Pos} (hc : X.calm = true) (tk : L2N.Takes X W) (k : XCls X.K X.mg x C) (hg : Gl X x) (hdb : (x == ("__debug__" : Str)) = false := by decide) :
    PS X (.Raise (some (.Call (.Name x p) [.Constant (.str m) j p2] [] pos)) none pos2) (tRaise C W) :=
  L2N.ps_raise hc tk (L2N.pmk_own PySem.F.excBase_ValueError k.ein k.gl k.kp (raises_own k.sb k.ty) hg hdb)
section
variable {K : PySem.W.Frag} {w : World} {c : Cs} {e : Ev} {Q : W → Cs → Prop} {te : TE} {t : TA} {D : DV} {g : TG} {R : Addr → Option (Str × PyData) → Ev → Cs → Prop} {Wt : WX}
/-- an expression that may raise -/
def VC (K : PySem.W.Frag) (w : World) (te : TE) (e : Ev) (c : Cs) (Q : W → Cs → Prop) (R : Addr → Option (Str × PyData) → Ev → Cs → Prop) (Wt : WX) : Prop :=
  ∀ B G ρ σ H T, Hx B G ρ c H → Sl K w B G ρ H σ e → Kt K w B G ρ H Q T → LfX K w B G ρ H R Wt → te σ H T
theorem v_callX {sp : SpX} (h : VA K w t e c fun us c1 => ∃ us', trs c1 us = some us' ∧ sp us' [] (fun u _ => u.res = true ∧ Q u c1) (fun C z => R C z e c1)) : VC K w (tCallX (liftX K w sp) Wt t) e c Q R Wt := by
  intro B G0 ρ0 σ H0 T X S k L
  refine h B G0 ρ0 σ H0 _ X S fun us vs c1 G ρ H E1 X1 s1 f1 d1 ⟨us', hu, q1⟩ => ?_
  obtain ⟨s2, n2⟩ := trs_sh (ρk := []) X1 (by simp) s1 hu (by simp)
  have X2 : Hx (Bc H []) G [] [] H := ⟨.nil, by simp, by simp, X1.live, fun p b => b.1, .nil⟩
  refine ⟨_, G, [], [], us', _, _, X2, s2, n2, q1, ?_, ?_⟩
  · intro u c' ⟨hr, q⟩ v G' H' E X' s f
    obtain ⟨E2, X3⟩ := back (c1 := c1) X1 (by simp) E X' fun _ f => cells0 X1.cells fun p x hp h => f p x hp (by simp) h
    obtain ⟨r1, r2, r3, r4⟩ := res_c hr
    exact k _ _ _ _ _ _ (E1.trans E2) X3 (sh_back (ρk := []) (ck := c') (c1 := c1) X1 (by simp) r1 r2 r3 r4 s f) (E1.fr f) q
  · intro C z q d c' G' H' E X' xd
    obtain ⟨E2, X3⟩ := back (c1 := c1) X1 (by simp) E X' fun _ f => cells0 X1.cells fun p x hp h => f p x hp (by simp) h
    exact L C d z e c1 σ G' _ H' (E1.trans E2) X3 ((E1.trans E2).sl X S) xd q
def tAsgX (te : TE) (g : TG) : TS := tAsg te g
theorem PS.as_ax {X : Cx} {st : Stmt} (h : PS X st (tAsg te g)) : PS X st (tAsgX te g) := h
theorem v_asgX (h : VC K w te e c (fun u c1 => VG K w g u e c1 D.nx) D.xx D.W) : VS K w (tAsgX te g) e c D := by
  intro B G ρ σ H Dh X S L
  refine h B G ρ σ H _ X S (fun u v c1 G1 ρ1 H1 E1 X1 s1 f1 q1 => ?_) L.xx
  exact q1 B G ρ H G1 ρ1 σ H1 v _ E1 X1 (E1.sl X S) s1 f1 fun e2 c2 σ2 G2 ρ2 H2 E2 _ X2 S2 q2 => L.nx _ _ _ _ _ _ E2 X2 S2 q2
theorem v_raise {C : Addr} (hW : D.W = Wt) (q : D.xx C none e c) : VS K w (tRaise C Wt) e c D := by
  subst hW
  exact fun B G ρ σ H Dh X S L => L.xx C none none e c σ G ρ H .refl X S trivial q
def tTryAs (K : PySem.W.Frag) (cv : Value) (i : Nat) (ts : Addr → Value → Option Addr → TS) (tb : WX → TS) : TS := fun D σ H => tb (wAs K cv i ts (fun _ _ _ _ => False) D) D σ H
theorem ps_tryA {X : Cx} {x n : Str} {cv : Value} {i : Nat} {body suite : List Stmt} {b₀ : Stmt} {np pos pos' : Pos} {tb : WX → TS} {ts : Addr → Value → Option Addr → TS} {K : PySem.W.Frag} (hK : X.K = K)
    (hs : X.stack = X.env :: X.outer) (hf : X.env.frame = some X.env.locals) (hN : X.N.Nodup) (hi : X.N[i]? = some n) (hln : X.env.kindOf n = some .local) (hc : Names X x cv)
    (hb : ∀ (W : WX) (pn : List (Addr × Obj)) (xe : Value → Shared → Prop), L2N.Takes (X.tr pn xe) W → PassesOwn (model X.prog X.w) X.A X.env xe → PSs (X.tr pn xe) body (tb W))
    (hsu : ∀ (a : Addr) (oe : Obj) (cls : Value) (d : Option Addr) (pn : List (Addr × Obj)), L2N.Zn cls d oe → (∃ vs, oe.data = .fields vs) → PSs (X.suite a ((a, oe) :: pn)) (b₀ :: suite) (ts a cls d)) :
    PS X (.Try body [.ExceptHandler (some (.Name x np)) (some n) (b₀ :: suite) pos'] [] [] pos) (tTryAs K cv i ts tb) := by
  subst hK
  exact L2N.ps_try_as hs hf hN hi hln hc (fun u s' ⟨_, _, _, _, _, _, _, _, _, _, _, _, _, _, _, _, w⟩ => w.elim) hb hsu
theorem v_tryA {cv : Value} {i : Nat} {ts : Addr → Value → Option Addr → TS} {tb : WX → TS} (XB : Addr → Option (Str × PyData) → Ev → Cs → Prop)
    (hb : ∀ Wb, VS K w (tb Wb) e c { D with xx := XB, W := Wb })
    (hx : ∀ C z e' c', XB C z e' c' → PySem.W.exmOne K (.ref C) cv = some true ∧ ∀ a d, (z = none → d = none) → VS K w (ts a (.ref C) d) (e'.set i (some (.x a))) c'
      { nx := fun e2 c2 => D.nx (e2.set i none) c2, rt := D.rt, bk := fun e2 c2 => D.bk (e2.set i none) c2, ct := fun e2 c2 => D.ct (e2.set i none) c2 }) : VS K w (tTryAs K cv i ts tb) e c D := by
  intro B G ρ σ H Dh X S L
  refine hb _ B G ρ σ H Dh X S ⟨L.nx, L.rt, L.bk, L.ct, ?_⟩
  intro C d z e' c' σ' G' ρ' H' E' X' S' xd q
  obtain ⟨h1, h2⟩ := hx C z e' c' q
  have hd : z = none → d = none := fun hz => by
    subst hz
    cases d with
    | none => rfl
    | some dd => exact (show False from xd).elim
  refine ⟨true, h1, fun _ a ha => ?_, fun h => by cases h⟩
  refine h2 a d hd B G' ρ' (σ'.set i (some (.ref a))) H' _ X' (sl_set S' .x rfl i) ?_
  have nn : ∀ {σ2 : L2.St} {e2 : Ev} {G2 : Addr → Prop} {ρ2 : List Addr} {H2 : Hp}, Sl K w B G2 ρ2 H2 σ2 e2 → Sl K w B G2 ρ2 H2 (σ2.set i none) (e2.set i none) := fun S2 => paired_set (a := none) (b := none) trivial i S2
  exact ⟨fun e2 c2 σ2 G2 ρ2 H2 E2 X2 S2 q2 => L.nx _ _ _ _ _ _ (E'.trans E2) X2 (nn S2) q2, L.rt.re E', fun e2 c2 σ2 G2 ρ2 H2 E2 X2 S2 q2 => L.bk _ _ _ _ _ _ (E'.trans E2) X2 (nn S2) q2, fun e2 c2 σ2 G2 ρ2 H2 E2 X2 S2 q2 => L.ct _ _ _ _ _ _ (E'.trans E2) X2 (nn S2) q2, fun _ _ _ _ _ _ _ _ _ _ _ _ _ q => q.elim⟩
end
structure FnE (P : Program) (w : World) (K : PySem.W.Frag) (mg : Str → Option Value) (base : Heap) (k : Nat) (f : Addr) (fd : FuncData) (ps : List Str) (sp : Addr → Value → Option Addr → Sp) : Prop where
  len : ∀ a cls d vs H Q E, sp a cls d vs H Q E → vs.length = ps.length
  run : ∀ (A : Around) (outer : List Env) (s : Shared) (H : Hp) (args : Args) (us : List Value) (vs : List V) (Q : VK) (p : Addr × Obj) (cls : Value) (d : Option Addr), A.guards = some [] → L2H.RoomH k A → L2H.Hot1 A p → Zc cls d p.2 → (∃ fv, p.2.data = .fields fv) → L2H.PinOk outer H s p →
    Env0 P w K mg base A outer s H → BindsTo s fd args (ps.zip us) → Vals vs us → sp p.1 cls d vs H Q E0 → codeAny (model P w) A (.call (.ref f) args) (CR CX0 outer P w H s Q E0) s
structure GE (P : Program) (w : World) (K : PySem.W.Frag) (mg : Str → Option Value) (base : Heap) (k : Nat) (x : Str) (sp : Addr → Value → Option Addr → Sp) : Prop where
  ex : ∃ (f : Addr) (fd : FuncData) (ps : List Str), mg x = some (.ref f) ∧ PySem.W.keepIn K (.ref f) = true ∧ Binds K fd ps [] ∧ FnE P w K mg base k f fd ps sp
section
variable {P : Program} {w : World} {K : PySem.W.Frag} {mg : Str → Option Value} {base : Heap} {k : Nat} {f : Addr} {fd : FuncData} {ps N : List Str}
theorem FnE.mk' {sp : Addr → Value → Option Addr → Sp} {x qual : Str} {st : Stmt} (F : Fun K x qual st f fd) (S : FnScope N ps (defScope st))
    (len : ∀ a cls d vs H Q E, sp a cls d vs H Q E → vs.length = ps.length)
    (hbody : ∀ (cdv : Value) (A : Around) (outer : List Env) (s : Shared) (H : Hp) (vs : List V) (Q : VK) (p : Addr × Obj) (cls : Value) (d : Option Addr), A.guards = some [] → L2H.Hot1 A p → Zc cls d p.2 → (∃ fv, p.2.data = .fields fv) →
      L2H.RoomH k (A.deeper (envOfC qual (defScope st) s.heap.objs.size f cdv)) → sp p.1 cls d vs H Q E0 →
      ∃ t, PSs (L2H.cxH CX0 P w K mg base N qual (defScope st) f cdv A outer s H E0 p) (defBody st) t ∧ t { nx := fun _ H' => Q .non H', rt := Q } (L2.start N vs) H) :
    FnE P w K mg base (k + 1) f fd ps sp := by
  obtain ⟨oc, od, kV, doc, pm, an, cdv, ct, osl, rfl, lk, hcd⟩ := F.ex
  refine ⟨len, fun A outer s H args us vs Q p cls d gd hr hot hz hfv hpin e0 hb r hsp => ?_⟩
  have hl := len _ _ _ _ _ _ _ hsp
  have KX : K.In s.heap := e0.mod.kin.keeps fun b o e => (e0.bs b o e).1
  have lim : s.heap.NoLimit := e0.mod.nolimit.keeps fun b o e => (e0.bs b o e).1
  have hkind : ∀ y ∈ ps.zip us, (defScope st).names.lookup y.1 = some .local ∨ ((defScope st).names.lookup y.1 = some .cell ∧ ((cellsFrom (s.heap.objs.size + 1) (defScope st).names []).lookup y.1).isSome = true) := fun ⟨n, v⟩ hy => by
    rcases S.par n (List.of_mem_zip hy).1 with q | q
    · exact .inl q
    · exact .inr ⟨q, PySem.W.cellsFrom_some _ _ _ (.inl q)⟩
  refine codeAny_call_function hr.depth (KX _ _ lk) rfl S.co S.gen rfl (PySem.W.codeRec_of KX hcd) (hb _ _ _ _ ?_)
  refine wpAny_newFunctionEnv_cells S.kind hkind fun env he s1 x => ?_
  subst he
  refine ⟨lim.keeps x.toInCall.keep, codeAny_func ?_⟩
  obtain ⟨t, ht, hq⟩ := hbody cdv A outer s H vs Q p cls d gd hot hz hfv (hr.deeper _) hsp
  have I : Inv (L2H.cxH CX0 P w K mg base N qual (defScope st) f cdv A outer s H E0 p) [] (L2.start N vs) H s1 := L2H.inv_startH S hpin e0 hl r x
  refine wpAny_mono (ht.run [] s1 (L2.start N vs) H _ I hq) (fun fl s' hs => ?_) fun e s' hs => hs
  have fin : ∀ {σ' : L2.St} {H' : Hp} {v : V} {u : Value}, Inv (L2H.cxH CX0 P w K mg base N qual (defScope st) f cdv A outer s H E0 p) [] σ' H' s' → RelV v u → Q v H' → CE outer P w H s Q u s' :=
    fun {σ' H' v u} J rv q => ⟨v, H', J.os, J.bare, J.base, J.hok, rv, q⟩
  cases fl with
  | ret u =>
    obtain ⟨v, σ', H', J, rv, q⟩ := hs
    exact fin J rv q
  | next =>
    obtain ⟨σ', H', J, q⟩ := hs
    exact fin (v := V.non) (u := Value.none) J rfl q
  | brk =>
    obtain ⟨_, _, _, q⟩ := hs
    exact False.elim q
  | cont =>
    obtain ⟨_, _, _, q⟩ := hs
    exact False.elim q
theorem FnE.v {sp : Addr → Value → Option Addr → SpV} {x qual : Str} {st : Stmt} (F : Fun K x qual st f fd) (S : FnScope N ps (defScope st))
    (len : ∀ a cls d us c Q, sp a cls d us c Q → us.length = ps.length)
    (body : ∀ (cdv : Value) (A : Around) (outer : List Env) (s : Shared) (H : Hp) (us : List W) (c : Cs) (Q : W → Cs → Prop) (p : Addr × Obj) (cls : Value) (d : Option Addr), A.guards = some [] → Zc cls d p.2 → (∃ fv, p.2.data = .fields fv) →
      L2H.RoomH k (A.deeper (envOfC qual (defScope st) s.heap.objs.size f cdv)) → sp p.1 cls d us c Q →
      ∃ t, PSs (L2H.cxH CX0 P w K mg base N qual (defScope st) f cdv A outer s H E0 p) (defBody st) t ∧
        VS K w t (startE N us) c { nx := fun _ c' => rtn c.length Q (.d .none) c', rt := rtn c.length Q }) :
    FnE P w K mg base (k + 1) f fd ps (fun a cls d => lift K w (sp a cls d)) := by
  refine FnE.mk' F S (fun a cls d vs H Q E h => ?_) (fun cdv A outer s H vs T p cls d gd hot hz hfv hr h => ?_)
  · obtain ⟨B, G, ρ, c, us, Q, X, sh, no, h, _⟩ := h
    rw [Paired.length sh]
    exact len a cls d us c Q h
  · obtain ⟨B, G, ρ, c, us, Q, X, sh, no, h, fin⟩ := h
    obtain ⟨t, h1, h2⟩ := body cdv A outer s H us c Q p cls d gd hz hfv hr h
    have kt := kt_rtn c.length X.len fin
    refine ⟨t, h1, h2 B G ρ (L2.start N vs) H _ X (sl_start sh no) ⟨fun e' c' σ' G' ρ' H' E' X' S' q => ?_, kt, fun _ _ _ _ _ _ _ _ _ q => q, fun _ _ _ _ _ _ _ _ _ q => q, fun _ _ _ _ _ _ _ _ _ _ _ _ _ q => q.elim⟩⟩
    exact kt _ _ _ _ _ _ E' X' (.d .non) trivial q
end
section
variable {X : Cx} {k j : Nat} {sp : Addr → Value → Option Addr → Sp} {x : Str} {q pos : Pos} {e : Expr} {es : List Expr} {t : TA} {a : Addr} {oe : Obj} {cls : Value} {d : Option Addr}
theorem pe_xh (cc : GE X.prog X.w X.K X.mg X.base k x sp) (hp : (a, oe) ∈ X.pn) (hot : L2H.Hot1 X.A (a, oe)) (hz : Zc cls d oe) (hfv : ∃ fv, oe.data = .fields fv) (gd : X.A.guards = some []) (hr : L2H.RoomH j X.A) (hk : k ≤ j) (hg : Gl X x) (ha : PA X (e :: es) t)
    (hdb : (x == ("__debug__" : Str)) = false := by decide) (he : starEach (e :: es) X.env = (false, eval e X.env) :: starEach es X.env := by rfl)
    (hpl : (backTo pos (starEach es X.env)).any (·.1) = false := by rfl) : PE X (.Call (.Name x q) (e :: es) [] pos) (tCall (sp a cls d) [] E0 t) := by
  obtain ⟨f, fd, ps, h1, h2, h3, F⟩ := cc.ex
  refine ⟨fun pins s σ H Q I h => ?_⟩
  refine wpAny_Call_Name_kw (ld_glob I hg h1 ?_ hdb)
  refine PySem.W.callWith_K (h₀ := X.base) I.ok.mod.kin h2 (thn (ha.run pos pins s σ H _ I h) fun us s1 ⟨vs, H1, I1, r, q1⟩ => ⟨I1.kIn, ?_⟩) he hpl
  have q1 : sp a cls d (vs ++ []) H1 Q E0 := q1
  rw [List.append_nil] at q1
  have hl : us.length = ps.length := by rw [← r.length]; exact F.len _ _ _ _ _ _ _ q1
  have b := h3 s1 us I1.kIn (by rw [List.append_nil]; exact hl)
  rw [List.append_nil] at b
  have P1 := I1.pin (a, oe) (List.mem_append_left _ hp)
  have hpin : L2H.PinOk X.stack H1 s1 (a, oe) := ⟨P1.1, P1.2.1, fun hm => (List.mem_cons.mp (I1.stkSub a hm)).elim P1.2.2.1 P1.2.2.2.1, P1.2.2.2.2⟩
  refine wpAny_call (codeAny_mono (F.run X.A X.stack s1 H1 ⟨us, []⟩ us vs Q (a, oe) cls d gd (by exact ⟨by have := hr.dp; omega, by have := hr.un; omega⟩) hot hz hfv hpin I1.env0 b r q1) fun r s' hq => ?_)
  cases r with
  | error e => exact (show False from hq).elim
  | ok fl =>
    cases fl with
    | ret u => exact I1.after hq
    | next => exact False.elim hq
    | brk => exact False.elim hq
    | cont => exact False.elim hq
end
def uIsE (K : PySem.W.Frag) (D a : Addr) : List V → Hp → VK → Prop := fun xs H Q => ∃ (c : V) (cv : Value) (b : Bool), xs = [.ref a, c] ∧ (∀ u, RelV c u → u = cv) ∧ PySem.W.kitOne K (.ref D) cv = some b ∧ Q (.bl b) H
theorem instAt {a D : Addr} {oe : Obj} {h : Heap} (hz : Zc (.ref D) none oe) (hf : ∃ vs, oe.data = .fields vs) (hget : h.get? a = some oe) : PySem.W.InstAt h a oe D none := by
  obtain ⟨vs, hv⟩ := hf
  obtain ⟨oc, od, oda, osl⟩ := oe
  obtain ⟨h1, h2⟩ := hz
  dsimp only at h1 h2 hv
  subst h1 h2 hv
  exact ⟨hget, rfl, rfl, trivial⟩
theorem cu_isE {X : Cx} {K : PySem.W.Frag} {a D : Addr} {oe : Obj} (hK : X.K = K) (hp : (a, oe) ∈ X.pn) (C : ExcC K D) (hz : Zc (.ref D) none oe) (hf : ∃ vs, oe.data = .fields vs) : CallR X (.builtin "isinstance") (uIsE K D a) := by
  subst hK
  intro pins s σ H xs us Q I r h
  obtain ⟨c, cv, b, rfl, hcv, e, q⟩ := h
  cases r with
  | cons rx rr =>
    cases rr with
    | cons rt rr =>
      cases rr
      cases rx
      have ec := hcv _ rt
      subst ec
      obtain ⟨hget, _⟩ := I.pin (a, oe) (List.mem_append.mpr (.inl hp))
      exact PySem.W.kia_one (PySem.W.handS_kitx_exc C.hg C.hk C.hs C.hd C.ha C.hn C.ht C.hm) I.kIn (instAt hz hf hget) e (fun z => nomatch z) fun tk => ⟨.bl b, H, I.kept (t' := tk) fun _ _ z => z, rfl, q⟩
section
variable {K : PySem.W.Frag} {w : World} {c : Cs} {e : Ev} {Q : W → Cs → Prop}
theorem w_isE {D a T : Addr} {b : Bool} (h : PySem.W.kitOne K (.ref D) (.ref T) = some b) (q : Q (.d (.bool b)) c) : VX K w (uIsE K D a) [.x a, .x T] c Q := by
  intro B G0 ρ0 H0 G ρ H vs S E X sx fx k
  obtain ⟨v, v', rfl, s, s'⟩ := v2 sx
  cases s
  cases s'
  exact ⟨.ref T, .ref T, b, rfl, fun u r => r, h, k.d E X (.bl _) q⟩
theorem w_isEb {D a : Addr} {T : String} {b : Bool} (h : PySem.W.kitOne K (.ref D) (.type T) = some b) (q : Q (.d (.bool b)) c) : VX K w (uIsE K D a) [.x a, .ty T] c Q := by
  intro B G0 ρ0 H0 G ρ H vs S E X sx fx k
  obtain ⟨v, v', rfl, s, s'⟩ := v2 sx
  cases s
  cases s'
  exact ⟨.ty T, .type T, b, rfl, fun u r => r, h, k.d E X (.bl _) q⟩
theorem v_cref {K : PySem.W.Frag} {w : World} {c : Cs} {e : Ev} {Q : W → Cs → Prop} {a : Addr} (q : Q (.x a) c) : VE K w (tC (.ref a)) e c Q := fun B G ρ σ H T X S k => k _ _ _ _ _ _ .refl X .x trivial q
end
end Gd
namespace Gd
open PySem PySem.Spec PyProof.Rows L2
theorem roomH_mark {k : Nat} {A : Around} {h : Option Value} (r : Room k A) : L2H.RoomH k (A.mark h) := ⟨r.dp, r.un⟩
def uIsET (K : PySem.W.Frag) (D a : Addr) : List V → Hp → VK → Prop := fun xs H Q => ∃ (t : Addr) (cs : List Addr) (b : Bool), xs = [.ref a, .ref t] ∧ H t = some (.tup (cs.map V.ref)) ∧ PySem.W.kitAny K (.ref D) (cs.map Value.ref) = some b ∧ Q (.bl b) H
theorem vals_refs : ∀ {cs : List Addr} {its : List Value}, Vals (cs.map V.ref) its → its = cs.map Value.ref
  | [], _, h => by cases h; rfl
  | c :: cs, _, h => by
    cases h with
    | cons r t => rw [List.map_cons, ← vals_refs t, show _ = Value.ref c from r]
theorem cu_isET {X : Cx} {K : PySem.W.Frag} {a D : Addr} {oe : Obj} (hK : X.K = K) (hp : (a, oe) ∈ X.pn) (C : ExcC K D) (hz : Zc (.ref D) none oe) (hf : ∃ vs, oe.data = .fields vs) : CallR X (.builtin "isinstance") (uIsET K D a) := by
  subst hK
  intro pins s σ H xs us Q I r h
  obtain ⟨t, cs, b, rfl, ht, e, q⟩ := h
  cases r with
  | cons rx rr =>
    cases rr with
    | cons rt rr =>
      cases rr
      cases rx
      cases rt
      obtain ⟨hget, _⟩ := I.pin (a, oe) (List.mem_append.mpr (.inl hp))
      obtain ⟨its, rv, ⟨o, ho, hc, n, hd⟩, _⟩ := I.tuple (SqT.of ht)
      obtain ⟨oc, od, oda, osl⟩ := o
      dsimp only at hc hd
      subst hc hd
      have hi := vals_refs rv
      subst hi
      exact PySem.W.kia_tup (PySem.W.handS_kitx_exc C.hg C.hk C.hs C.hd C.ha C.hn C.ht C.hm) I.kIn (instAt hz hf hget) ho e (fun z => nomatch z) fun tk => ⟨.bl b, H, I.kept (t' := tk) fun _ _ z => z, rfl, q⟩
def tIsT (K : PySem.W.Frag) (D a : Addr) (i : Nat) (t : TA) : TE := tCB (uIsET K D a) (tCons (tVar i) (tCons (tTup t) tNil))
theorem PE.as_isT {X : Cx} {K : PySem.W.Frag} {D a : Addr} {i : Nat} {t : TA} {e : Expr} (h : PE X e (tCB (uIsET K D a) (tCons (tVar i) (tCons (tTup t) tNil)))) : PE X e (tIsT K D a i t) := h
section
variable {K : PySem.W.Frag} {w : World} {c : Cs} {e : Ev} {Q : W → Cs → Prop} {t : TA}
theorem xs_refs {B G : Addr → Prop} {ρ : List Addr} {H : Hp} : ∀ {cs : List Addr} {vs : List V}, Paired (Sh K w B G ρ H) vs (cs.map W.x) → vs = cs.map V.ref
  | [], _, h => by cases h; rfl
  | c :: cs, _, h => by
    cases h with
    | cons r t =>
      cases r
      rw [xs_refs t]
      rfl
theorem v_isT {D a : Addr} {i : Nat} (hi : e[i]? = some (some (.x a))) (h : VA K w t e c fun us c1 => ∃ (cs : List Addr) (b : Bool), us = cs.map W.x ∧ cs.length ≤ sizeLine ∧ PySem.W.kitAny K (.ref D) (cs.map Value.ref) = some b ∧ Q (.d (.bool b)) c1) : VE K w (tIsT K D a i t) e c Q := by
  intro B G ρ σ H T X S k
  obtain ⟨a', h1, h2⟩ := paired_get S hi
  obtain ⟨n, v, rfl, h3⟩ := h2
  cases h3
  refine ⟨.ref a, h1, ?_⟩
  refine h B G ρ σ H _ X S fun us vs c1 G1 ρ1 H1 E1 X1 s1 f1 d1 ⟨cs, b, hu, hl, hk, q⟩ => ?_
  subst hu
  have hv := xs_refs s1
  subst hv
  refine ⟨by rw [List.length_map]; exact hl, fun p np => ?_⟩
  exact ⟨p, cs, b, rfl, upd_same, hk, k.d (E1.trans (.new np)) (X1.new np) (.bl b) q⟩
end
def rCntV (K : PySem.W.Frag) : V → List V → Hp → VK → Prop := fun x xs H Q => ∃ (a : Addr) (ys : List V) (y : V), x = V.ref a ∧ xs = [y] ∧ SqL K H a ys ∧ flatV y = true ∧ ys.all flatV = true ∧ Q (.int (ys.countP fun z => eqV z y : Nat)) H
theorem count_of {y : V} {u : Value} : ∀ {ys : List V} {its : List Value}, Vals ys its → (∀ {z : V} {v : Value}, RelV z v → flatV z = true → eqU y v = eqV z y) → ys.all flatV = true → its.countP (eqU y) = ys.countP fun z => eqV z y
  | [], _, h, _, _ => by cases h; rfl
  | z :: ys, _, h, k, f => by
    cases h with
    | cons r t =>
      simp only [List.all_cons, Bool.and_eq_true] at f
      rw [List.countP_cons, List.countP_cons, count_of (u := u) t k f.2, k r f.1]
theorem kmt_countV {X : Cx} {K : PySem.W.Frag} (hK : X.K = K) : MtR X "list.count" (rCntV K) := by
  subst hK
  intro pins s σ H x xs v us Q I rx rxs h
  obtain ⟨a, ys, y, rfl, rfl, hs, fy, fys, q⟩ := h
  cases rx
  cases rxs with
  | cons ry rt =>
    rename_i uy ut
    cases rt
    obtain ⟨its, rv, ⟨⟨cls, dd, data, sl⟩, n, ho, hc, hdn, hd⟩, hlen⟩ := I.list hs
    simp only at hc hd
    subst hc hd
    refine call_meets PySem.F.slot_list_count ⟨_, ho, rfl⟩ PySem.F.entry_list_count (PySem.F.args_list_count_2 _ _)
      (SeqAt.list_countAt a its.toArray n dd sl uy (eqU y)) ⟨ho, fun u' hu' => mem_eqAt ry fy rv fys u' (by simpa using hu'), ?_⟩
    have ec : its.toArray.toList.countP (eqU y) = ys.countP fun z => eqV z y := count_of (u := uy) rv (fun r f => eqU_of r f) fys
    refine ⟨.int (ys.countP fun z => eqV z y : Nat), H, I.tok _, ⟨s.toks, ?_⟩, q⟩
    show Value.int ((its.toArray.toList.countP (eqU y) : Nat) : Int) s.toks = Value.int ((ys.countP fun z => eqV z y : Nat) : Int) s.toks
    rw [ec]
theorem kmt_indexV {X : Cx} {K : PySem.W.Frag} (hK : X.K = K) : MtR X "list.index" (rIndex K) := by subst hK; exact mt_index
section
variable {K : PySem.W.Frag} {w : World} {c : Cs} {x : W} {Q : W → Cs → Prop}
theorem dql_bools {G : Addr → Prop} {H : Hp} : ∀ {bs : List Bool} {vs : List V}, DqL G H vs (bs.map .bool) → vs = bs.map V.bl
  | [], _, h => by cases h; rfl
  | b :: bs, _, h => by
    cases h with
    | cons q r =>
      cases q
      rw [dql_bools r]
      rfl
theorem flat_bools (bs : List Bool) : (bs.map V.bl).all flatV = true := by simp [List.all_map, Function.comp_def, flatV]
theorem w_countT {bs : List Bool} (h : Lv c x (bs.map .bool)) (q : Q (.d (.int (bs.countP id : Nat))) c) : VM K w (rCntV K) x [.d (.bool true)] c Q := by
  intro B G0 ρ0 H0 G ρ H vx vs T E X sx fx ss fs k
  obtain ⟨v, rfl, s⟩ := v1 ss
  obtain ⟨p, zs, rfl, a1, a2⟩ := h.seq X sx
  have e := dql_bools a2
  subst e
  cases s with
  | d s =>
    cases s
    refine ⟨p, bs.map V.bl, .bl true, rfl, rfl, a1, rfl, flat_bools bs, ?_⟩
    have : ((bs.map V.bl).countP fun z => eqV z (.bl true)) = bs.countP id := by
      rw [List.countP_map]
      congr 1
      funext b
      cases b <;> rfl
    rw [this]
    exact k.d E X (.int _) q
theorem w_indexT {bs : List Bool} {j : Nat} (h : Lv c x (bs.map .bool)) (hj : bs[j]? = some true) (hno : ∀ m, m < j → bs[m]? = some false) (q : Q (.d (.int (j : Nat))) c) : VM K w (rIndex K) x [.d (.bool true)] c Q := by
  intro B G0 ρ0 H0 G ρ H vx vs T E X sx fx ss fs k
  obtain ⟨v, rfl, s⟩ := v1 ss
  obtain ⟨p, zs, rfl, a1, a2⟩ := h.seq X sx
  have e := dql_bools a2
  subst e
  cases s with
  | d s =>
    cases s
    refine ⟨p, bs.map V.bl, .bl true, j, .bl true, rfl, rfl, a1, rfl, flat_bools bs, by rw [List.getElem?_map, hj]; rfl, rfl, fun m z hm hz => ?_, k.d E X (.int _) q⟩
    rw [List.getElem?_map, hno m hm] at hz
    cases hz
    rfl
end
end Gd
open PySem PySem.Spec PyProof.Rows L2 Gd
local macro_rules | `(tactic| walk_at "sz") => `(tactic| first
  | assumption
  | (rw [sizeLine_eq]; simp only [List.length_cons, List.length_nil, List.length_map, List.length_append]; omega)
  | (rw [sizeLine_eq]; omega)
  | (rw [sizeLine_eq]; decide +kernel))
local macro_rules | `(tactic| walk_at "lv") => `(tactic| first
  | assumption
  | exact .b
  | exact .d
  | exact .o
  | exact .s
  | exact .c rfl
  | exact .c (by assumption)
  | exact .ca rfl)
local macro_rules | `(tactic| walk_at "v1") => `(tactic| first
  | ((with_reducible refine' v_var ?k1 ?_); (case k1 => exact rfl))
  | with_reducible refine v_int ?_
  | with_reducible refine v_str ?_
  | with_reducible refine v_bl ?_
  | with_reducible refine v_non ?_
  | with_reducible refine v_ty ?_
  | with_reducible refine v_op ?_
  | with_reducible refine v_un ?_
  | with_reducible refine v_cb ?_
  | with_reducible refine v_cons ?_
  | with_reducible refine v_nil ?_
  | with_reducible refine v_call0 ?_
  | with_reducible refine v_callO ?_
  | with_reducible refine v_seq ?_
  | with_reducible refine v_asg ?_
  | with_reducible refine v_next ?_
  | with_reducible refine v_drop ?_
  | with_reducible refine v_ret ?_
  | with_reducible refine v_ifs ?_
  | with_reducible refine v_ife ?_
  | with_reducible refine v_test ?_
  | with_reducible refine v_tru ?_
  | with_reducible refine v_tand ?_
  | with_reducible refine v_tor ?_
  | with_reducible refine v_tnot ?_
  | with_reducible refine v_yes ?_
  | with_reducible refine v_andT ?_
  | with_reducible refine v_notT ?_
  | with_reducible refine v_lst ?_
  | with_reducible refine v_tupTT ?_
  | with_reducible refine v_tup ?_
  | with_reducible refine v_sl ?_
  | with_reducible refine v_part ?_
  | with_reducible refine v_nopart ?_
  | with_reducible refine v_revL ?_
  | with_reducible refine v_bm ?_
  | with_reducible refine v_m1 ?_
  | with_reducible refine v_dnewD ?_
  | with_reducible refine v_cref ?_
  | with_reducible refine v_forU ?_
  | with_reducible refine v_for1 ?_
  | with_reducible refine v_forE ?_
  | with_reducible refine v_forZ ?_
  | with_reducible refine v_lcU ?_
  | with_reducible refine v_lc1 ?_
  | with_reducible refine v_lcZA ?_
  | with_reducible refine v_parB ?_
  | with_reducible refine v_par3B ?_
  | with_reducible refine v_par false false ?_
  | with_reducible refine v_par3 false false false ?_
  | with_reducible refine v_nx ?_
  | with_reducible refine v_rt ?_
  | with_reducible refine v_pturn ?_
  | with_reducible refine v_turn ?_
  | with_reducible refine v_gC ?_
  | with_reducible refine v_gnameD ?_
  | ((with_reducible refine' v_gname ?k1 ?_); (case k1 => exact rfl))
  | ((with_reducible refine' v_gtup ?k1 ?_); (case k1 => exact rfl))
  | with_reducible refine v_gcons ?_
  | with_reducible refine v_gnil ?_
  | ((with_reducible refine' v_gset ?k1 ?_); (case k1 => exact rfl))
  | with_reducible refine rtn_d ?_
  | with_reducible refine rtn_o ?_
  | ((with_reducible refine' rtn_c ?k1 ?k2 ?_); (case k1 => exact Nat.le_of_ble_eq_true rfl); (case k2 => exact rfl))
  | with_reducible refine res_d ?_
  | with_reducible refine res_o ?_
  | with_reducible refine b_c ?_
  | with_reducible refine i_c ?_
  | with_reducible refine s_c ?_
  | with_reducible refine t_bl ?_
  | ((with_reducible refine' l_c ?k1 ?k2 ?_); (case k1 => exact rfl); (case k2 => rw [sizeLine_eq]; exact Nat.le_of_ble_eq_true rfl))
  | with_reducible refine z_d ?_
  | ((with_reducible refine' ty_lw ?k1 ?_); (case k1 => walk_at "lv"))
  | ((with_reducible refine' c0_c ?k1 ?_); (case k1 => exact rfl))
  | ((with_reducible refine' c1_cL ?k1 ?k2 ?k3 ?_); (case k1 => exact rfl); (case k2 => exact rfl); (case k3 => exact rfl))
  | ((with_reducible refine' c1_cO ?k1 ?k2 ?k3 ?_); (case k1 => exact rfl); (case k2 => exact rfl); (case k3 => exact rfl))
  | with_reducible refine so_c ?_
  | ((with_reducible refine' gs_c ?k1 ?k2 ?_); (case k1 => exact rfl); (case k2 => exact rfl))
  | with_reducible refine tr_2 ?_
  | with_reducible refine tr_3 ?_
  | with_reducible refine set_c ?_
  | with_reducible refine iteT ?_
  | with_reducible refine iteF ?_
  | with_reducible refine ite_nt ?_
  | with_reducible refine ite_nf ?_
  | with_reducible refine w_addI ?_
  | with_reducible refine w_subI ?_
  | with_reducible refine w_neg ?_
  | with_reducible refine w_eqIs ?_
  | with_reducible refine w_eqBs ?_
  | with_reducible refine w_neBs ?_
  | with_reducible refine w_eqNn ?_
  | with_reducible refine w_eqI ?_
  | with_reducible refine w_neI ?_
  | with_reducible refine w_eqSs ?_
  | with_reducible refine w_eqS ?_
  | with_reducible refine w_neS ?_
  | with_reducible refine w_eqB ?_
  | with_reducible refine w_neB ?_
  | with_reducible refine w_ltI ?_
  | with_reducible refine w_gtI ?_
  | with_reducible refine w_leI ?_
  | with_reducible refine w_ltS ?_
  | with_reducible refine w_gtS ?_
  | with_reducible refine w_isP ?_
  | with_reducible refine w_isN ?_
  | with_reducible refine w_starts ?_
  | with_reducible refine w_eqTt ?_
  | with_reducible refine w_max2 ?_
  | with_reducible refine w_min2 ?_
  | with_reducible refine w_inS ?_
  | ((with_reducible refine' w_mod ?k1 ?_); (case k1 => first | assumption | decide | omega))
  | ((with_reducible refine' w_div ?k1 ?k2 ?_); (case k1 => first | assumption | decide | omega); (case k2 => first | assumption | decide))
  | ((with_reducible refine' w_mulI ?k1 ?_); (case k1 => first | exact Or.inl (Or.inl ⟨by decide, by decide⟩) | exact Or.inl (Or.inr ⟨by decide, by decide⟩)))
  | ((with_reducible refine' w_pow ?k1 ?_); (case k1 => exact ⟨by decide, by decide⟩))
  | ((with_reducible refine' w_mulS ?k1 ?k2 ?k3 ?_); (case k1 => first | assumption | omega | decide); (case k2 => first | assumption | omega | decide); (case k3 => first | assumption | decide))
  | ((with_reducible refine' w_slS ?k1 ?_); (case k1 => walk_at "sz"))
  | ((with_reducible refine' w_slL ?k1 ?_); (case k1 => walk_at "lv"))
  | ((with_reducible refine' w_lenS ?k1 ?_); (case k1 => walk_at "sz"))
  | ((with_reducible refine' w_lenL ?k1 ?_); (case k1 => walk_at "lv"))
  | with_reducible refine w_lenT ?_
  | ((with_reducible refine' w_addS ?k1 ?_); (case k1 => walk_at "sz"))
  | ((with_reducible refine' w_addL ?k1 ?k2 ?k3 ?_); (case k1 => walk_at "lv"); (case k2 => walk_at "lv"); (case k3 => walk_at "sz"))
  | ((with_reducible refine' w_ixL ?k1 ?k2 ?_); (case k1 => walk_at "lv"); (case k2 => exact rfl))
  | ((with_reducible refine' w_all ?k1 ?_); (case k1 => walk_at "lv"))
  | ((with_reducible refine' w_allM ?k1 ?_); (case k1 => walk_at "lv"))
  | with_reducible refine w_isiT (.str _) ?_
  | with_reducible refine w_isiT (.int _) ?_
  | with_reducible refine w_isiT (.bl _) ?_
  | with_reducible refine w_isiT (.tup _) ?_
  | ((with_reducible refine' w_isiT (.lst ?k1) ?_); (case k1 => walk_at "lv"))
  | ((with_reducible refine w_isiF (.str _) ?_ ?_); · decide)
  | ((with_reducible refine w_isiF (.int _) ?_ ?_); · decide)
  | ((with_reducible refine w_isiF (.bl _) ?_ ?_); · decide)
  | ((with_reducible refine w_isiF .non ?_ ?_); · decide)
  | ((with_reducible refine w_isiF (.tup _) ?_ ?_); · decide)
  | ((with_reducible refine' w_isiF (.lst ?k1) ?k2 ?_); (case k1 => walk_at "lv"); (case k2 => decide)))
local macro_rules | `(tactic| walk_at "go") => `(tactic| repeat (walk_at "v1"))
open PySem PySem.Spec PyProof.Rows L2 Gd
namespace My
open PySem PySem.Spec PyProof.Rows L2 Gd
def topS (i : Nat) : Stmt := PySem.Challenge.pw_ghosttext_k09_invalid_texts_of_words.main.body.getD i (.Pass ⟨0, 0, 0, 0⟩)
abbrev s__law_draw : Stmt := topS 31
abbrev N__law_draw : List Str := ["source", "count", "digit", "mixed"]
theorem sc__law_draw : FnScope N__law_draw ["source", "count"] (defScope s__law_draw) := ⟨rfl, rfl, rfl, by decide +kernel, rfl, by decide +kernel, by decide +kernel⟩
abbrev s__law_damaged : Stmt := topS 39
abbrev N__law_damaged : List Str := ["source", "line", "pool", "mark", "parts", "at", "odd", "kind", "spot", "some"]
theorem sc__law_damaged : FnScope N__law_damaged ["source", "line", "pool", "mark"] (defScope s__law_damaged) := ⟨rfl, rfl, rfl, by decide +kernel, rfl, by decide +kernel, by decide +kernel⟩
abbrev s__law_equal : Stmt := topS 40
abbrev N__law_equal : List Str := ["result", "expected", "one", "other"]
theorem sc__law_equal : FnScope N__law_equal ["result", "expected"] (defScope s__law_equal) := ⟨rfl, rfl, rfl, by decide +kernel, rfl, by decide +kernel, by decide +kernel⟩
abbrev s__law_name_of : Stmt := topS 41
abbrev N__law_name_of : List Str := ["caught", "some"]
theorem sc__law_name_of : FnScope N__law_name_of ["caught"] (defScope s__law_name_of) := ⟨rfl, rfl, rfl, by decide +kernel, rfl, by decide +kernel, by decide +kernel⟩
abbrev s__split : Stmt := topS 28
abbrev N__split : List Str := ["text"]
theorem sc__split : FnScope N__split ["text"] (defScope s__split) := ⟨rfl, rfl, rfl, by decide +kernel, rfl, by decide +kernel, by decide +kernel⟩
abbrev s_is_text : Stmt := topS 21
abbrev N_is_text : List Str := ["value", "letter"]
theorem sc_is_text : FnScope N_is_text ["value"] (defScope s_is_text) := ⟨rfl, rfl, rfl, by decide +kernel, rfl, by decide +kernel, by decide +kernel⟩
abbrev s_is_word : Stmt := topS 22
abbrev N_is_word : List Str := ["value"]
theorem sc_is_word : FnScope N_is_word ["value"] (defScope s_is_word) := ⟨rfl, rfl, rfl, by decide +kernel, rfl, by decide +kernel, by decide +kernel⟩
abbrev s__is_word_list : Stmt := topS 24
abbrev N__is_word_list : List Str := ["value", "item"]
theorem sc__is_word_list : FnScope N__is_word_list ["value"] (defScope s__is_word_list) := ⟨rfl, rfl, rfl, by decide +kernel, rfl, by decide +kernel, by decide +kernel⟩
abbrev s__least_clash : Stmt := topS 25
abbrev N__least_clash : List Str := ["words", "ordered", "word", "other"]
theorem sc__least_clash : FnScope N__least_clash ["words"] (defScope s__least_clash) := ⟨rfl, rfl, rfl, by decide +kernel, rfl, by decide +kernel, by decide +kernel⟩
abbrev s_is_history : Stmt := topS 23
abbrev N_is_history : List Str := ["value"]
theorem sc_is_history : FnScope N_is_history ["value"] (defScope s_is_history) := ⟨rfl, rfl, rfl, by decide +kernel, rfl, by decide +kernel, by decide +kernel⟩
abbrev s_parse_words : Stmt := topS 27
abbrev N_parse_words : List Str := ["text", "words"]
theorem sc_parse_words : FnScope N_parse_words ["text"] (defScope s_parse_words) := ⟨rfl, rfl, rfl, by decide +kernel, rfl, by decide +kernel, by decide +kernel⟩
abbrev s__law_outcome : Stmt := topS 43
abbrev N__law_outcome : List Str := ["value", "outcome", "e"]
theorem sc__law_outcome : FnScope N__law_outcome ["value"] (defScope s__law_outcome) := ⟨rfl, rfl, rfl, by decide +kernel, rfl, by decide +kernel, by decide +kernel⟩
abbrev s__law_is_word : Stmt := topS 35
abbrev N__law_is_word : List Str := ["value", "letter"]
theorem sc__law_is_word : FnScope N__law_is_word ["value"] (defScope s__law_is_word) := ⟨rfl, rfl, rfl, by decide +kernel, rfl, by decide +kernel, by decide +kernel⟩
abbrev s__law_pairs : Stmt := topS 36
abbrev N__law_pairs : List Str := ["words", "found", "one", "other"]
theorem sc__law_pairs : FnScope N__law_pairs ["words"] (defScope s__law_pairs) := ⟨rfl, rfl, rfl, by decide +kernel, rfl, by decide +kernel, by decide +kernel⟩
abbrev s__law_is_uses : Stmt := topS 37
abbrev N__law_is_uses : List Str := ["value", "word"]
theorem sc__law_is_uses : FnScope N__law_is_uses ["value"] (defScope s__law_is_uses) := ⟨rfl, rfl, rfl, by decide +kernel, rfl, by decide +kernel, by decide +kernel⟩
abbrev s__law_parsed : Stmt := topS 42
abbrev N__law_parsed : List Str := ["written", "uses", "word", "sign"]
theorem sc__law_parsed : FnScope N__law_parsed ["written"] (defScope s__law_parsed) := ⟨rfl, rfl, rfl, by decide +kernel, rfl, by decide +kernel, by decide +kernel⟩
abbrev s__law_uses : Stmt := topS 38
abbrev N__law_uses : List Str := ["source", "words", "most", "many", "step"]
theorem sc__law_uses : FnScope N__law_uses ["source", "words", "most"] (defScope s__law_uses) := ⟨rfl, rfl, rfl, by decide +kernel, rfl, by decide +kernel, by decide +kernel⟩
abbrev s__law_fits : Stmt := topS 33
abbrev N__law_fits : List Str := ["words", "word", "other"]
theorem sc__law_fits : FnScope N__law_fits ["words", "word"] (defScope s__law_fits) := ⟨rfl, rfl, rfl, by decide +kernel, rfl, by decide +kernel, by decide +kernel⟩
abbrev s__law_word : Stmt := topS 32
abbrev N__law_word : List Str := ["source", "letters", "size", "number", "word", "step"]
theorem sc__law_word : FnScope N__law_word ["source", "letters", "size"] (defScope s__law_word) := ⟨rfl, rfl, rfl, by decide +kernel, rfl, by decide +kernel, by decide +kernel⟩
abbrev s__law_words : Stmt := topS 34
abbrev N__law_words : List Str := ["source", "most", "letters", "many", "size", "stem", "found", "step", "way", "word"]
theorem sc__law_words : FnScope N__law_words ["source", "most"] (defScope s__law_words) := ⟨rfl, rfl, rfl, by decide +kernel, rfl, by decide +kernel, by decide +kernel⟩
abbrev s__law_holds : Stmt := topS 44
abbrev N__law_holds : List Str := ["source", "most", "words", "written", "step", "near", "pool", "due", "fixed", "one", "odd"]
theorem sc__law_holds : FnScope N__law_holds ["source", "most"] (defScope s__law_holds) := ⟨rfl, rfl, rfl, by decide +kernel, rfl, by decide +kernel, by decide +kernel⟩
abbrev s__law_source : Stmt := topS 30
abbrev N__law_source : List Str := ["cell", "k"]
theorem sc__law_source : FnScope N__law_source ["cell", "k"] (defScope s__law_source) := ⟨rfl, rfl, rfl, by decide +kernel, rfl, by decide +kernel, by decide +kernel⟩
abbrev s_law : Stmt := topS 45
abbrev N_law : List Str := ["script", "k", "cell"]
theorem sc_law : FnScope N_law ["script"] (defScope s_law) := ⟨rfl, rfl, rfl, by decide +kernel, rfl, by decide +kernel, by decide +kernel⟩
structure Nm (mg : Str → Option Value) : Prop where
  ValueError_ : mg "ValueError" = none
  all_ : mg "all" = none
  bool_ : mg "bool" = none
  enumerate_ : mg "enumerate" = none
  int_ : mg "int" = none
  isinstance_ : mg "isinstance" = none
  len_ : mg "len" = none
  list_ : mg "list" = none
  max_ : mg "max" = none
  min_ : mg "min" = none
  range_ : mg "range" = none
  set_ : mg "set" = none
  sorted_ : mg "sorted" = none
  str_ : mg "str" = none
  tuple_ : mg "tuple" = none
  type_ : mg "type" = none
  zip_ : mg "zip" = none
  LETTERS_ : ∃ t, mg "LETTERS" = some (.str "abcdefghijklmnopqrstuvwxyz" t)
  MOST_LETTERS_ : ∃ t, mg "MOST_LETTERS" = some (.int 12 t)
structure Cl where
  DifferentWordsError : Addr
  EmptyHistoryError : Addr
  FullError : Addr
  GhosttextError : Addr
  ImpossibleKeysError : Addr
  InvalidBookError : Addr
  InvalidFormatError : Addr
  InvalidHistoryError : Addr
  InvalidKeysError : Addr
  InvalidNumberError : Addr
  InvalidStateError : Addr
  InvalidTextError : Addr
  InvalidWordError : Addr
  NothingTypedError : Addr
  PrefixError : Addr
  TooLongError : Addr
  UnknownWordError : Addr
structure XF (K : PySem.W.Frag) (mg : Str → Option Value) (C : Cl) : Prop where
  g_DifferentWordsError : mg "DifferentWordsError" = some (.ref C.DifferentWordsError)
  g_EmptyHistoryError : mg "EmptyHistoryError" = some (.ref C.EmptyHistoryError)
  g_FullError : mg "FullError" = some (.ref C.FullError)
  g_GhosttextError : mg "GhosttextError" = some (.ref C.GhosttextError)
  g_ImpossibleKeysError : mg "ImpossibleKeysError" = some (.ref C.ImpossibleKeysError)
  g_InvalidBookError : mg "InvalidBookError" = some (.ref C.InvalidBookError)
  g_InvalidFormatError : mg "InvalidFormatError" = some (.ref C.InvalidFormatError)
  g_InvalidHistoryError : mg "InvalidHistoryError" = some (.ref C.InvalidHistoryError)
  g_InvalidKeysError : mg "InvalidKeysError" = some (.ref C.InvalidKeysError)
  g_InvalidNumberError : mg "InvalidNumberError" = some (.ref C.InvalidNumberError)
  g_InvalidStateError : mg "InvalidStateError" = some (.ref C.InvalidStateError)
  g_InvalidTextError : mg "InvalidTextError" = some (.ref C.InvalidTextError)
  g_InvalidWordError : mg "InvalidWordError" = some (.ref C.InvalidWordError)
  g_NothingTypedError : mg "NothingTypedError" = some (.ref C.NothingTypedError)
  g_PrefixError : mg "PrefixError" = some (.ref C.PrefixError)
  g_TooLongError : mg "TooLongError" = some (.ref C.TooLongError)
  g_UnknownWordError : mg "UnknownWordError" = some (.ref C.UnknownWordError)
  x_InvalidFormatError : XCls K mg "InvalidFormatError" C.InvalidFormatError
  xc_InvalidFormatError : ExcC K C.InvalidFormatError
  em_InvalidFormatError_GhosttextError : PySem.W.exmOne K (.ref C.InvalidFormatError) (.ref C.GhosttextError) = some true
  ki_InvalidFormatError_DifferentWordsError : PySem.W.kitOne K (.ref C.InvalidFormatError) (.ref C.DifferentWordsError) = some false
  ki_InvalidFormatError_EmptyHistoryError : PySem.W.kitOne K (.ref C.InvalidFormatError) (.ref C.EmptyHistoryError) = some false
  ki_InvalidFormatError_FullError : PySem.W.kitOne K (.ref C.InvalidFormatError) (.ref C.FullError) = some false
  ki_InvalidFormatError_GhosttextError : PySem.W.kitOne K (.ref C.InvalidFormatError) (.ref C.GhosttextError) = some true
  ki_InvalidFormatError_ImpossibleKeysError : PySem.W.kitOne K (.ref C.InvalidFormatError) (.ref C.ImpossibleKeysError) = some false
  ki_InvalidFormatError_InvalidBookError : PySem.W.kitOne K (.ref C.InvalidFormatError) (.ref C.InvalidBookError) = some false
  ki_InvalidFormatError_InvalidFormatError : PySem.W.kitOne K (.ref C.InvalidFormatError) (.ref C.InvalidFormatError) = some true
  ki_InvalidFormatError_InvalidHistoryError : PySem.W.kitOne K (.ref C.InvalidFormatError) (.ref C.InvalidHistoryError) = some false
  ki_InvalidFormatError_InvalidKeysError : PySem.W.kitOne K (.ref C.InvalidFormatError) (.ref C.InvalidKeysError) = some false
  ki_InvalidFormatError_InvalidNumberError : PySem.W.kitOne K (.ref C.InvalidFormatError) (.ref C.InvalidNumberError) = some false
  ki_InvalidFormatError_InvalidStateError : PySem.W.kitOne K (.ref C.InvalidFormatError) (.ref C.InvalidStateError) = some false
  ki_InvalidFormatError_InvalidTextError : PySem.W.kitOne K (.ref C.InvalidFormatError) (.ref C.InvalidTextError) = some false
  ki_InvalidFormatError_InvalidWordError : PySem.W.kitOne K (.ref C.InvalidFormatError) (.ref C.InvalidWordError) = some false
  ki_InvalidFormatError_NothingTypedError : PySem.W.kitOne K (.ref C.InvalidFormatError) (.ref C.NothingTypedError) = some false
  ki_InvalidFormatError_PrefixError : PySem.W.kitOne K (.ref C.InvalidFormatError) (.ref C.PrefixError) = some false
  ki_InvalidFormatError_TooLongError : PySem.W.kitOne K (.ref C.InvalidFormatError) (.ref C.TooLongError) = some false
  ki_InvalidFormatError_UnknownWordError : PySem.W.kitOne K (.ref C.InvalidFormatError) (.ref C.UnknownWordError) = some false
  kb_InvalidFormatError : PySem.W.kitOne K (.ref C.InvalidFormatError) (.type "ValueError") = some true
section
variable {P : Program} {w : World} {K : PySem.W.Frag} {mg : Str → Option Value} {base : Heap}
def sp_is_text : SpV := fun us c Q => ∃ s : Str, us = [.d (.str s)] ∧ c = [] ∧ s.length ≤ 100000 ∧ Q (.d (.bool (isT s))) []
theorem ok_is_text (n : Nm mg)  {f : Addr} {fd : FuncData} (F : Fun K "is_text" "is_text" s_is_text f fd) :
    FnOk P w K mg base CX0 1 f fd ["value"] (lift K w sp_is_text) := by
  obtain ⟨_, g_LETTERS⟩ := n.LETTERS_
  obtain ⟨_, g_MOST_LETTERS⟩ := n.MOST_LETTERS_
  have n_all := n.all_
  have n_isinstance := n.isinstance_
  have n_len := n.len_
  have n_str := n.str_
  refine FnOk.v F sc_is_text (fun us c Q h => ?_) (fun cdv A outer s H E us c Q hr h => ?_)
  · obtain ⟨s, rfl, _⟩ := h; rfl
  obtain ⟨z, rfl, rfl, hz, q⟩ := h
  refine ⟨_, (pss_cons (ps_if (PW.pt (pw_or (pt_not (kpt_u (K := K) rfl (pe_callB (kcu_isi (K := K) rfl) (by rfl) n_isinstance (by decide +kernel) (pa_cons (pv 0) (pa_cons (pe_bltn (v := .ty "str") (by rfl) n_str (by decide +kernel) rfl) pa_nil))) (by intro _; rfl))) (pw_or1 (pt_cmpR ou_gt (pe_callB (kcu_len (K := K) rfl) (by rfl) n_len (by decide +kernel) (pa_cons (pv 0) pa_nil)) (pe_glob (v := .int 12) rfl g_MOST_LETTERS ⟨_, rfl⟩) (nomark _)))))
      (pss_one (ps_ret pe_bl))
      pss_nil)
      (pss_one (ps_ret (pe_callB (kcr_all (K := K) rfl rfl) (by rfl) n_all (by decide +kernel) (pa_cons (pe_lc (own := [("letter", 1)]) rfl sc_is_text.nd (kpi_u (K := K) rfl (pv 0)) (blkOk_by (own := [("letter", 1)]) (N := N_is_text) (sc := defScope s_is_text) (by decide +kernel)) (fun _ _ _ _ _ => (pg_name (i := 1) sc_is_text.nd rfl (.inl rfl))) (fun _ _ _ _ _ => pts_nil) (fun _ _ _ _ _ => (pe_cmpR (kou_in (K := K) rfl) (pv 1) (pe_glob (v := .str "abcdefghijklmnopqrstuvwxyz") rfl g_LETTERS ⟨_, rfl⟩) rfl))) pa_nil))))), ?_⟩
  have hz2 := sz100k hz
  walk_at "go"
  refine ite2 (fun c => ?_) (fun c => ?_)
  · walk_at "go"
    rw [show isT z = false by simp [isT]; simp at c; omega] at q
    exact q
  · walk_at "go"
    refine vco_sM (fun a => .bool (low a)) (on_name (by decide)) hz2 (fun a ha => ?_) ?_
    · walk_at "go"
      exact ⟨by rw [in_letters], rfl⟩
    · walk_at "go"
      rw [show isT z = (tl z).all low by simp [isT]; simp at c; omega] at q
      exact q
def sp_is_word : SpV := fun us c Q => ∃ s : Str, us = [.d (.str s)] ∧ c = [] ∧ s.length ≤ 100000 ∧ Q (.d (.bool (isW s))) []
theorem ok_is_word (n : Nm mg) (c_is_text : GF P w K mg base 1 "is_text" (lift K w sp_is_text)) {f : Addr} {fd : FuncData} (F : Fun K "is_word" "is_word" s_is_word f fd) :
    FnOk P w K mg base CX0 2 f fd ["value"] (lift K w sp_is_word) := by
  have n_len := n.len_
  refine FnOk.v F sc_is_word (fun us c Q h => ?_) (fun cdv A outer s H E us c Q hr h => ?_)
  · obtain ⟨s, rfl, _⟩ := h; rfl
  obtain ⟨z, rfl, rfl, hz, q⟩ := h
  refine ⟨_, (pss_one (ps_ret (kpe_andT (K := K) rfl (pe_fc c_is_text hr (by decide) (by rfl) (pa_cons (pv 0) pa_nil)) (pe_one (pe_cmpR ou_gt (pe_callB (kcu_len (K := K) rfl) (by rfl) n_len (by decide +kernel) (pa_cons (pv 0) pa_nil)) pe_int (nomark _)))))), ?_⟩
  have hz2 := sz100k hz
  walk_at "go"
  refine ⟨z, rfl, rfl, hz, ?_⟩
  walk_at "go"
  refine ite2 (fun c => ?_) (fun c => ?_)
  · walk_at "go"
    rw [show isW z = decide ((0 : Int) < z.length) by simp [isW, c]] at q
    exact q
  · walk_at "go"
    rw [show isT z = isW z by simp [isW, c]]
    exact q
def sp__is_word_list : SpV := fun us c Q => ∃ ws : List Str, us = [.b (ws.map .str)] ∧ c = [] ∧ ws.length ≤ 10000 ∧ (∀ w ∈ ws, w.length ≤ 100000) ∧ Q (.d (.bool (ws.all isW))) []
theorem ok__is_word_list (n : Nm mg) (c_is_word : GF P w K mg base 2 "is_word" (lift K w sp_is_word)) {f : Addr} {fd : FuncData} (F : Fun K "_is_word_list" "_is_word_list" s__is_word_list f fd) :
    FnOk P w K mg base CX0 3 f fd ["value"] (lift K w sp__is_word_list) := by
  have n_all := n.all_
  have n_list := n.list_
  have n_type := n.type_
  refine FnOk.v F sc__is_word_list (fun us c Q h => ?_) (fun cdv A outer s H E us c Q hr h => ?_)
  · obtain ⟨s, rfl, _⟩ := h; rfl
  obtain ⟨ws, rfl, rfl, hl, hz, q⟩ := h
  refine ⟨_, (pss_one (ps_ret (kpe_andT (K := K) rfl (pe_cmpR ou_eqT (pe_callTy (kcu_typ (K := K) rfl) (by rfl) n_type (by decide +kernel) (pa_cons (pv 0) pa_nil)) (pe_bltn (v := .ty "list") (by rfl) n_list (by decide +kernel) rfl) (nomark _)) (pe_one (pe_callB (kcr_all (K := K) rfl rfl) (by rfl) n_all (by decide +kernel) (pa_cons (pe_lc (own := [("item", 1)]) rfl sc__is_word_list.nd (kpi_u (K := K) rfl (pv 0)) (blkOk_by (own := [("item", 1)]) (N := N__is_word_list) (sc := defScope s__is_word_list) (by decide +kernel)) (fun _ _ _ _ _ => (pg_name (i := 1) sc__is_word_list.nd rfl (.inl rfl))) (fun _ _ _ _ _ => pts_nil) (fun _ _ _ _ _ => (pe_fc c_is_word hr (by decide) (by rfl) (pa_cons (pv 1) pa_nil)))) pa_nil)))))), ?_⟩
  walk_at "go"
  refine w_typ (.lst .b) ?_
  walk_at "go"
  refine vco_lM (fun z => .bool (isW z)) .b (on_name (by decide)) (sz100k (by omega)) (fun z hz' => ?_) ?_
  · walk_at "go"
    refine ⟨z, rfl, rfl, hz z hz', ?_⟩
    walk_at "go"
    exact ⟨rfl, rfl⟩
  · walk_at "go"
    exact q
def sp__least_clash : SpV := fun us c Q => ∃ ws : List Str, us = [.b (ws.map .str)] ∧ c = [] ∧ ws.length < 4000 ∧ Q (.d (optP (clash ws))) []
theorem ok__least_clash (n : Nm mg)  {f : Addr} {fd : FuncData} (F : Fun K "_least_clash" "_least_clash" s__least_clash f fd) :
    FnOk P w K mg base CX0 1 f fd ["words"] (lift K w sp__least_clash) := by
  have n_set := n.set_
  have n_sorted := n.sorted_
  have n_zip := n.zip_
  refine FnOk.v F sc__least_clash (fun us c Q h => ?_) (fun cdv A outer s H E us c Q hr h => ?_)
  · obtain ⟨s, rfl, _⟩ := h; rfl
  obtain ⟨ws, rfl, rfl, hl, q⟩ := h
  refine ⟨_, (pss_cons (ps_set (i := 1) sc__least_clash.nd rfl (.inl rfl) (pe_callB (kcu_sort (K := K) (w := w) rfl rfl rfl) (by rfl) n_sorted (by decide +kernel) (pa_cons (pe_callTy (kcu_set (K := K) (w := w) rfl rfl rfl) (by rfl) n_set (by decide +kernel) (pa_cons (pv 0) pa_nil)) pa_nil)))
      (pss_cons (ps_for PassesOwn.never rfl (kpi_zip (K := K) rfl (by rfl) n_zip (pa_cons (pv 1) (pa_cons (pe_slice (ksl_u (K := K) rfl) (pv 1) (po_some pe_int) po_none) pa_nil))) (kpg_tup (K := K) (n := 2) rfl rfl (pgs_cons (pg_name (i := 2) sc__least_clash.nd rfl (.inl rfl)) (pgs_cons (pg_name (i := 3) sc__least_clash.nd rfl (.inl rfl)) pgs_nil)))
      (pss_one (ps_if (kpt_u (K := K) rfl (pe_m1 PySem.F.slot_str_startswith PySem.F.type_str_startswith mt_startswith (pv 3) (pv 2)) (by intro _; rfl))
      (pss_one (ps_ret (pe_tup (pa_cons (pv 2) (pa_cons (pv 3) pa_nil)))))
      pss_nil)))
      (pss_one (ps_ret pe_non)))), ?_⟩
  walk_at "go"
  refine w_set .b hl ?_
  walk_at "go"
  refine s_set fun ys pm so => ?_
  have ey := srt_eq pm so
  walk_at "go"
  rw [cutD_from _ (by decide), ← List.map_drop]
  refine vforA (it_z .d .o) (fun i e c => ∃ y2 y3, e = [some (.b (ws.map .str)), some (.d (.list (ys.map .str))), y2, y3] ∧ c = [] ∧ adj (ys.drop i) = adj ys) ⟨_, _, rfl, rfl, rfl⟩ (fun _ _ _ _ => ⟨.d, .o⟩) ?_ ?_
  · rintro i d e' c' hi ⟨a, b, ha, hb, rfl⟩ ⟨y2, y3, rfl, rfl, hd⟩
    obtain ⟨u, eu, rfl⟩ := map_at ha
    obtain ⟨v, ev, rfl⟩ := map_at hb
    rw [List.getElem?_drop, Nat.add_comm] at ev
    have hd1 : ys.drop i = u :: v :: ys.drop (i + 2) := by
      rw [List.drop_eq_getElem?_toList_append, eu, List.drop_eq_getElem?_toList_append, show i + 1 = i + Int.toNat 1 from rfl, ev]
      rfl
    have hd2 : ys.drop (i + 1) = v :: ys.drop (i + 2) := by
      rw [List.drop_eq_getElem?_toList_append, show i + 1 = i + Int.toNat 1 from rfl, ev]
      rfl
    walk_at "go"
    refine ite2 (fun c => ?_) (fun c => ?_)
    · walk_at "go"
      have hs : clash ws = some (u, v) := by
        unfold clash
        rw [← ey, ← hd, hd1, adj, if_pos c]
      rw [hs] at q
      exact q
    · walk_at "go"
      refine ⟨_, _, rfl, rfl, ?_⟩
      rw [← hd, hd1, adj, if_neg c, hd2]
  · rintro e' c' ⟨y2, y3, rfl, rfl, hd⟩
    walk_at "go"
    have : clash ws = none := by
      unfold clash
      rw [← ey, ← hd]
      rw [List.length_map, List.length_map, List.length_drop, Nat.min_eq_right (by omega)]
      have hl : (ys.drop (ys.length - Int.toNat 1)).length ≤ 1 := by
        rw [List.length_drop, show Int.toNat 1 = 1 from rfl]
        omega
      match ys.drop (ys.length - Int.toNat 1), hl with
      | [], _ => rfl
      | [_], _ => rfl
    rw [this] at q
    exact q
def sp_is_history : SpV := fun us c Q => ∃ ws : List Str, us = [.b (ws.map .str)] ∧ c = [] ∧ ws.length ≤ 10000 ∧ (ws.all isW = true → ws.length < 4000) ∧ (∀ w ∈ ws, w.length ≤ 100000) ∧ Q (.d (.bool (ws.all isW && (clash ws).isNone))) []
theorem ok_is_history (n : Nm mg) (c__is_word_list : GF P w K mg base 3 "_is_word_list" (lift K w sp__is_word_list)) (c__least_clash : GF P w K mg base 1 "_least_clash" (lift K w sp__least_clash)) {f : Addr} {fd : FuncData} (F : Fun K "is_history" "is_history" s_is_history f fd) :
    FnOk P w K mg base CX0 4 f fd ["value"] (lift K w sp_is_history) := by
  refine FnOk.v F sc_is_history (fun us c Q h => ?_) (fun cdv A outer s H E us c Q hr h => ?_)
  · obtain ⟨s, rfl, _⟩ := h; rfl
  obtain ⟨ws, rfl, rfl, hl, hl2, hz, q⟩ := h
  refine ⟨_, (pss_one (ps_ret (kpe_andT (K := K) rfl (pe_fc c__is_word_list hr (by decide) (by rfl) (pa_cons (pv 0) pa_nil)) (pe_one (pe_cmpR op_isN (pe_fc c__least_clash hr (by decide) (by rfl) (pa_cons (pv 0) pa_nil)) pe_non (nomark _)))))), ?_⟩
  walk_at "go"
  refine ⟨ws, rfl, rfl, hl, hz, ?_⟩
  walk_at "go"
  refine ite2 (fun c => ?_) (fun c => ?_)
  · walk_at "go"
    refine ⟨ws, rfl, rfl, hl2 c, ?_⟩
    walk_at "go"
    rw [c] at q
    exact q
  · walk_at "go"
    have c2 : ws.all isW = false := Bool.eq_false_iff.mpr c
    rw [c2, Bool.false_and] at q
    rw [c2]
    exact q
def spl (z : Str) : List Str := if z.length = 0 then [] else Txt.split z " "
def sp__split (C : Cl) : SpX := fun us c Q QX => ∃ x : PyData, us = [bw x] ∧ c = [] ∧ (∀ z, x = .str z → z.length ≤ 10000 ∧ Q (.o ((spl z).map .str)) []) ∧ ((¬ ∃ z, x = .str z) → QX C.InvalidFormatError none)
theorem ok__split (n : Nm mg) {C : Cl} (xf : XF K mg C)  {f : Addr} {fd : FuncData} (F : Fun K "_split" "_split" s__split f fd) :
    FnOk P w K mg base (L2N.CX P w) 1 f fd ["text"] (liftX K w (sp__split C)) := by
  have n_isinstance := n.isinstance_
  have n_len := n.len_
  have n_str := n.str_
  refine FnOk.vX F sc__split (fun us c Q QX h => ?_) (fun cdv A outer s H E us c Q QX hr h => ?_)
  · obtain ⟨x, rfl, _⟩ := h; rfl
  obtain ⟨x, rfl, rfl, hq, hx⟩ := h
  refine ⟨_, (pss_cons (ps_if (pt_not (kpt_u (K := K) rfl (pe_callB (kcu_isi (K := K) rfl) (by rfl) n_isinstance (by decide +kernel) (pa_cons (pv 0) (pa_cons (pe_bltn (v := .ty "str") (by rfl) n_str (by decide +kernel) rfl) pa_nil))) (by intro _; rfl)))
      (pss_one (ps_rs rfl tk_of xf.x_InvalidFormatError (by rfl)))
      pss_nil)
      (pss_one (ps_ret (pe_ifExp (pt_cmpR ou_gt (pe_callB (kcu_len (K := K) rfl) (by rfl) n_len (by decide +kernel) (pa_cons (pv 0) pa_nil)) pe_int (nomark _)) (pe_split (pv 0) pe_str) (pe_lst pa_nil))))), ?_⟩
  cases x with
  | none =>
        show VS K w _ (startE _ [.d .none]) _ _
        walk_at "go"
        refine v_raise rfl ?_
        exact hx (by simp)
  | bool b =>
        show VS K w _ (startE _ [.d (.bool b)]) _ _
        walk_at "go"
        refine v_raise rfl ?_
        exact hx (by simp)
  | int i =>
        show VS K w _ (startE _ [.d (.int i)]) _ _
        walk_at "go"
        refine v_raise rfl ?_
        exact hx (by simp)
  | list xs =>
        show VS K w _ (startE _ [.b xs]) _ _
        walk_at "go"
        refine v_raise rfl ?_
        exact hx (by simp)
  | tuple xs =>
        show VS K w _ (startE _ [.d (.tuple xs)]) _ _
        walk_at "go"
        refine v_raise rfl ?_
        exact hx (by simp)
  | dict xs =>
    show VS K w _ (startE _ [.d (.dict xs)]) _ _
    walk_at "go"
    refine w_isiF (.dct xs) (by decide) ?_
    walk_at "go"
    refine v_raise rfl ?_
    exact hx (by simp)
  | str z =>
    show VS K w _ (startE _ [.d (.str z)]) _ _
    obtain ⟨hz, q⟩ := hq z rfl
    have hz2 : z.length ≤ sizeLine := by rw [sizeLine_eq]; omega
    walk_at "go"
    refine ite2 (fun c => ?_) (fun c => ?_)
    · walk_at "go"
      have hne : ¬ z.length = 0 := by simp at c; omega
      refine w_split (by decide +kernel) (by rw [sizeLine_eq]; omega) ?_
      rw [spl, if_neg hne] at q
      walk_at "go"
      exact q
    · walk_at "go"
      have hne : z.length = 0 := by simp at c; omega
      rw [spl, if_pos hne] at q
      exact q
/-- the parts of a text that is a history -/
def okH (z : Str) : Bool := (spl z).all isW && (clash (spl z)).isNone
structure SplOk (z : Str) : Prop where
  len : (spl z).length ≤ 10000
  w : (spl z).all isW = true → (spl z).length < 4000
  l : ∀ w ∈ spl z, w.length ≤ 100000
def sp_parse_words (C : Cl) : SpX := fun us c Q QX => ∃ x : PyData, us = [bw x] ∧ c = [] ∧ (∀ z, x = .str z → z.length ≤ 10000 ∧ SplOk z ∧ (okH z = true → Q (.o ((spl z).map .str)) []) ∧ (okH z = false → QX C.InvalidFormatError none)) ∧ ((¬ ∃ z, x = .str z) → QX C.InvalidFormatError none)
theorem ok_parse_words (n : Nm mg) {C : Cl} (xf : XF K mg C) (c__split : GX P w K mg base 1 "_split" (liftX K w (sp__split C))) (c_is_history : GF P w K mg base 4 "is_history" (lift K w sp_is_history)) {f : Addr} {fd : FuncData} (F : Fun K "parse_words" "parse_words" s_parse_words f fd) :
    FnOk P w K mg base (L2N.CX P w) 5 f fd ["text"] (liftX K w (sp_parse_words C)) := by
  refine FnOk.vX F sc_parse_words (fun us c Q QX h => ?_) (fun cdv A outer s H E us c Q QX hr h => ?_)
  · obtain ⟨x, rfl, _⟩ := h; rfl
  obtain ⟨x, rfl, rfl, hq, hx⟩ := h
  refine ⟨_, (pss_cons (PS.as_ax (PS.as_c (ps_set (i := 1) sc_parse_words.nd rfl (.inl rfl) (pe_xc c__split tk_of hr (by decide) (by rfl) (pa_cons (pv 0) pa_nil)))))
      (pss_cons (ps_if (pt_not (kpt_u (K := K) rfl (pe_fc c_is_history hr (by decide) (by rfl) (pa_cons (pv 1) pa_nil)) (by intro _; rfl)))
      (pss_one (ps_rs rfl tk_of xf.x_InvalidFormatError (by rfl)))
      pss_nil)
      (pss_one (ps_ret (pv 1))))), ?_⟩
  walk_at "go"
  refine v_asgX ?_
  refine v_callX ?_
  walk_at "go"
  refine ⟨[bw x], by cases x <;> rfl, x, rfl, rfl, fun z e => ?_, hx⟩
  obtain ⟨h1, ok, h2, h3⟩ := hq z e
  refine ⟨h1, rfl, ?_⟩
  walk_at "go"
  refine ⟨spl z, rfl, rfl, ok.len, ok.w, ok.l, ?_⟩
  walk_at "go"
  rw [show ((spl z).all isW && (clash (spl z)).isNone) = okH z from rfl]
  cases e2 : okH z with
  | true =>
    walk_at "go"
    exact h2 e2
  | false =>
    walk_at "go"
    refine v_raise rfl ?_
    exact h3 e2
def sp__law_name_of (C : Cl) (a : Addr) (cls : Value) (d : Option Addr) : SpV := fun us c Q => us = [.x a] ∧ c = [] ∧ cls = .ref C.InvalidFormatError ∧ d = none ∧ Q (.d (.str "format")) []
theorem ok__law_name_of (n : Nm mg) {C : Cl} (xf : XF K mg C)  {f : Addr} {fd : FuncData} (F : Fun K "_law_name_of" "_law_name_of" s__law_name_of f fd) :
    FnE P w K mg base 1 f fd ["caught"] (fun a cls d => lift K w (sp__law_name_of C a cls d)) := by
  have n_ValueError := n.ValueError_
  have n_isinstance := n.isinstance_
  refine FnE.v F sc__law_name_of (fun a cls d us c Q h => ?_) (fun cdv A outer s H us c Q p cls d gd hz hfv hr h => ?_)
  · obtain ⟨rfl, _⟩ := h; rfl
  obtain ⟨rfl, rfl, rfl, rfl, q⟩ := h
  have hxc := xf.xc_InvalidFormatError
  refine ⟨_, (pss_cons (ps_if (PW.pt (pw_or (pt_not (kpt_u (K := K) rfl (pe_callB (cu_isE (K := K) rfl (show (p.1, p.2) ∈ [p] from List.mem_cons_self) hxc hz hfv) (by rfl) n_isinstance (by decide +kernel) (pa_cons (pv 0) (pa_cons (pe_bltn (v := .ty "ValueError") (by rfl) n_ValueError (by decide +kernel) rfl) pa_nil))) (by intro _; rfl))) (pw_or1 (pt_not (kpt_u (K := K) rfl (pe_callB (cu_isE (K := K) rfl (show (p.1, p.2) ∈ [p] from List.mem_cons_self) hxc hz hfv) (by rfl) n_isinstance (by decide +kernel) (pa_cons (pv 0) (pa_cons (pe_glob (v := .ref C.GhosttextError) (by rfl) xf.g_GhosttextError rfl) pa_nil))) (by intro _; rfl))))))
      (pss_one (ps_ret pe_str))
      pss_nil)
      (pss_cons (ps_if (kpt_u (K := K) rfl (PE.as_isT (pe_callB (cu_isET (K := K) rfl (show (p.1, p.2) ∈ [p] from List.mem_cons_self) hxc hz hfv) (by rfl) n_isinstance (by decide +kernel) (pa_cons (pv 0) (pa_cons (pe_tup (pa_cons (pe_glob (v := .ref C.DifferentWordsError) (by rfl) xf.g_DifferentWordsError rfl) (pa_cons (pe_glob (v := .ref C.EmptyHistoryError) (by rfl) xf.g_EmptyHistoryError rfl) (pa_cons (pe_glob (v := .ref C.FullError) (by rfl) xf.g_FullError rfl) (pa_cons (pe_glob (v := .ref C.ImpossibleKeysError) (by rfl) xf.g_ImpossibleKeysError rfl) (pa_cons (pe_glob (v := .ref C.InvalidKeysError) (by rfl) xf.g_InvalidKeysError rfl) pa_nil)))))) pa_nil)))) (by intro _; rfl))
      (pss_one (ps_ret pe_str))
      pss_nil)
      (pss_cons (ps_if (kpt_u (K := K) rfl (PE.as_isT (pe_callB (cu_isET (K := K) rfl (show (p.1, p.2) ∈ [p] from List.mem_cons_self) hxc hz hfv) (by rfl) n_isinstance (by decide +kernel) (pa_cons (pv 0) (pa_cons (pe_tup (pa_cons (pe_glob (v := .ref C.InvalidNumberError) (by rfl) xf.g_InvalidNumberError rfl) (pa_cons (pe_glob (v := .ref C.InvalidTextError) (by rfl) xf.g_InvalidTextError rfl) (pa_cons (pe_glob (v := .ref C.NothingTypedError) (by rfl) xf.g_NothingTypedError rfl) (pa_cons (pe_glob (v := .ref C.TooLongError) (by rfl) xf.g_TooLongError rfl) (pa_cons (pe_glob (v := .ref C.UnknownWordError) (by rfl) xf.g_UnknownWordError rfl) pa_nil)))))) pa_nil)))) (by intro _; rfl))
      (pss_one (ps_ret pe_str))
      pss_nil)
      (pss_cons (ps_set (i := 1) sc__law_name_of.nd rfl (.inl rfl) (pe_lst (pa_cons (pe_callB (cu_isE (K := K) rfl (show (p.1, p.2) ∈ [p] from List.mem_cons_self) hxc hz hfv) (by rfl) n_isinstance (by decide +kernel) (pa_cons (pv 0) (pa_cons (pe_glob (v := .ref C.InvalidBookError) (by rfl) xf.g_InvalidBookError rfl) pa_nil))) (pa_cons (pe_callB (cu_isE (K := K) rfl (show (p.1, p.2) ∈ [p] from List.mem_cons_self) hxc hz hfv) (by rfl) n_isinstance (by decide +kernel) (pa_cons (pv 0) (pa_cons (pe_glob (v := .ref C.InvalidHistoryError) (by rfl) xf.g_InvalidHistoryError rfl) pa_nil))) pa_nil))))
      (pss_cons (ps_set (i := 1) sc__law_name_of.nd rfl (.inl rfl) (pe_op (kou_add (K := K) rfl) (pv 1) (pe_lst (pa_cons (pe_callB (cu_isE (K := K) rfl (show (p.1, p.2) ∈ [p] from List.mem_cons_self) hxc hz hfv) (by rfl) n_isinstance (by decide +kernel) (pa_cons (pv 0) (pa_cons (pe_glob (v := .ref C.InvalidWordError) (by rfl) xf.g_InvalidWordError rfl) pa_nil))) (pa_cons (pe_callB (cu_isE (K := K) rfl (show (p.1, p.2) ∈ [p] from List.mem_cons_self) hxc hz hfv) (by rfl) n_isinstance (by decide +kernel) (pa_cons (pv 0) (pa_cons (pe_glob (v := .ref C.InvalidStateError) (by rfl) xf.g_InvalidStateError rfl) pa_nil))) pa_nil)))))
      (pss_cons (ps_set (i := 1) sc__law_name_of.nd rfl (.inl rfl) (pe_op (kou_add (K := K) rfl) (pv 1) (pe_lst (pa_cons (pe_callB (cu_isE (K := K) rfl (show (p.1, p.2) ∈ [p] from List.mem_cons_self) hxc hz hfv) (by rfl) n_isinstance (by decide +kernel) (pa_cons (pv 0) (pa_cons (pe_glob (v := .ref C.InvalidFormatError) (by rfl) xf.g_InvalidFormatError rfl) pa_nil))) (pa_cons (pe_callB (cu_isE (K := K) rfl (show (p.1, p.2) ∈ [p] from List.mem_cons_self) hxc hz hfv) (by rfl) n_isinstance (by decide +kernel) (pa_cons (pv 0) (pa_cons (pe_glob (v := .ref C.PrefixError) (by rfl) xf.g_PrefixError rfl) pa_nil))) pa_nil)))))
      (pss_cons (ps_if (pt_cmpR (kou_ne (K := K) rfl hr.units) (kpe_bm (K := K) rfl PySem.F.plainAttrs_list PySem.F.slot_list_count PySem.F.type_list_count (kmt_countV (K := K) rfl) (pv 1) (pa_cons pe_bl pa_nil)) pe_int (nomark _))
      (pss_one (ps_ret pe_str))
      pss_nil)
      (pss_cons (ps_if (kpt_u (K := K) rfl (pe_callB (cu_isE (K := K) rfl (show (p.1, p.2) ∈ [p] from List.mem_cons_self) hxc hz hfv) (by rfl) n_isinstance (by decide +kernel) (pa_cons (pv 0) (pa_cons (pe_glob (v := .ref C.PrefixError) (by rfl) xf.g_PrefixError rfl) pa_nil))) (by intro _; rfl))
      (pss_one ps_never)
      pss_nil)
      (pss_one (ps_ret (pe_ix (kix_seq (K := K) rfl) (pe_lst (pa_cons pe_str (pa_cons pe_str (pa_cons pe_str (pa_cons pe_str (pa_cons pe_str pa_nil)))))) (kpe_bm (K := K) rfl PySem.F.plainAttrs_list PySem.F.slot_list_index PySem.F.type_list_index (kmt_indexV (K := K) rfl) (pv 1) (pa_cons pe_bl pa_nil)) (fun _ _ => rfl)))))))))))), ?_⟩
  walk_at "go"
  refine w_isEb xf.kb_InvalidFormatError ?_
  walk_at "go"
  refine w_isE xf.ki_InvalidFormatError_GhosttextError ?_
  walk_at "go"
  refine v_isT rfl ?_
  walk_at "go"
  refine ⟨[C.DifferentWordsError, C.EmptyHistoryError, C.FullError, C.ImpossibleKeysError, C.InvalidKeysError], false, rfl, by rw [sizeLine_eq]; exact Nat.le_of_ble_eq_true rfl, by simp only [List.map_cons, List.map_nil, PySem.W.kitAny, xf.ki_InvalidFormatError_DifferentWordsError, xf.ki_InvalidFormatError_EmptyHistoryError, xf.ki_InvalidFormatError_FullError, xf.ki_InvalidFormatError_ImpossibleKeysError, xf.ki_InvalidFormatError_InvalidKeysError], ?_⟩
  walk_at "go"
  refine v_isT rfl ?_
  walk_at "go"
  refine ⟨[C.InvalidNumberError, C.InvalidTextError, C.NothingTypedError, C.TooLongError, C.UnknownWordError], false, rfl, by rw [sizeLine_eq]; exact Nat.le_of_ble_eq_true rfl, by simp only [List.map_cons, List.map_nil, PySem.W.kitAny, xf.ki_InvalidFormatError_InvalidNumberError, xf.ki_InvalidFormatError_InvalidTextError, xf.ki_InvalidFormatError_NothingTypedError, xf.ki_InvalidFormatError_TooLongError, xf.ki_InvalidFormatError_UnknownWordError], ?_⟩
  walk_at "go"
  refine w_isE xf.ki_InvalidFormatError_InvalidBookError ?_
  walk_at "go"
  refine w_isE xf.ki_InvalidFormatError_InvalidHistoryError ?_
  walk_at "go"
  refine w_isE xf.ki_InvalidFormatError_InvalidWordError ?_
  walk_at "go"
  refine w_isE xf.ki_InvalidFormatError_InvalidStateError ?_
  walk_at "go"
  refine w_isE xf.ki_InvalidFormatError_InvalidFormatError ?_
  walk_at "go"
  refine w_isE xf.ki_InvalidFormatError_PrefixError ?_
  walk_at "go"
  refine w_countT (bs := [false, false, false, false, true, false]) .d ?_
  walk_at "go"
  refine ite_f (by decide +kernel) ?_
  walk_at "go"
  refine w_isE xf.ki_InvalidFormatError_PrefixError ?_
  walk_at "go"
  refine w_indexT (bs := [false, false, false, false, true, false]) (j := 4) .d rfl (fun m hm => by
    match m, hm with
    | 0, _ => rfl
    | 1, _ => rfl
    | 2, _ => rfl
    | 3, _ => rfl) ?_
  walk_at "go"
  exact q
def oc (x : PyData) : PyData := match x with
  | .str z => if okH z = true then .list ((spl z).map .str) else .str "format"
  | _ => .str "format"
def rD : PyData → W
  | .list xs => .o xs
  | x => .d x
def sp__law_outcome : SpV := fun us c Q => ∃ x : PyData, us = [bw x] ∧ c = [] ∧ (∀ z, x = .str z → z.length ≤ 10000 ∧ SplOk z) ∧ Q (.d (oc x)) []
theorem ok__law_outcome (n : Nm mg) {C : Cl} (xf : XF K mg C) (h__law_name_of : GE P w K mg base 1 "_law_name_of" (fun a cls d => lift K w (sp__law_name_of C a cls d))) (c_parse_words : GX P w K mg base 5 "parse_words" (liftX K w (sp_parse_words C))) {f : Addr} {fd : FuncData} (F : Fun K "_law_outcome" "_law_outcome" s__law_outcome f fd) :
    GFn P w K mg base CX0 6 f fd ["value"] (lift K w sp__law_outcome) := by
  refine GFn.v F sc__law_outcome (fun us c Q h => ?_) (fun cdv A outer s H E us c Q gd hr h => ?_)
  · obtain ⟨x, rfl, _⟩ := h; rfl
  obtain ⟨x, rfl, rfl, hx, q⟩ := h
  refine ⟨_, (pss_cons (ps_set (i := 1) sc__law_outcome.nd rfl (.inl rfl) pe_non)
      (pss_cons (ps_tryA (K := K) (i := 2) rfl rfl rfl sc__law_outcome.nd rfl rfl ⟨by rfl, by decide, .inl xf.g_GhosttextError⟩ (fun W_ pn xe tk po => (pss_one (PS.as_ax (ps_set (i := 1) sc__law_outcome.nd rfl (.inl rfl) (pe_xc c_parse_words tk hr (by decide) (by rfl) (pa_cons (pv 0) pa_nil))))))
      (fun a oe cls d pn hz hfv => (pss_one (ps_set (i := 1) sc__law_outcome.nd rfl (.inl rfl) (pe_xh h__law_name_of List.mem_cons_self ⟨rfl, let ⟨fv, he⟩ := hfv; ⟨fv, he, hz.2.2 fv he⟩⟩ hz.zc hfv gd (roomH_mark hr) (by decide) (by rfl) (pa_cons (pv 2) pa_nil))))))
      (pss_one (ps_ret (pv 1))))), ?_⟩
  walk_at "go"
  refine v_tryA (fun C' z e' c' => C' = C.InvalidFormatError ∧ z = none ∧ e' = [some (bw x), some (.d .none), none] ∧ c' = [] ∧ oc x = .str "format") (fun Wb => ?_) ?_
  · refine v_asgX ?_
    refine v_callX ?_
    walk_at "go"
    refine ⟨[bw x], by cases x <;> rfl, x, rfl, rfl, fun z e => ?_, fun hn => ?_⟩
    · subst e
      obtain ⟨h1, ok⟩ := hx z rfl
      refine ⟨h1, ok, fun h2 => ?_, fun h2 => ?_⟩
      · refine ⟨rfl, ?_⟩
        walk_at "go"
        have e1 : oc (.str z) = .list ((spl z).map .str) := if_pos h2
        rw [e1] at q
        exact q
      · exact ⟨rfl, rfl, rfl, rfl, if_neg (by rw [h2]; decide)⟩
    · refine ⟨rfl, rfl, rfl, rfl, ?_⟩
      cases x with
      | str z => exact (hn ⟨z, rfl⟩).elim
      | _ => rfl
  · rintro C' z e' c' ⟨rfl, rfl, rfl, rfl, ho⟩
    refine ⟨xf.em_InvalidFormatError_GhosttextError, fun a d hd => ?_⟩
    have hd := hd rfl
    subst hd
    walk_at "go"
    refine ⟨rfl, rfl, rfl, rfl, ?_⟩
    walk_at "go"
    rw [ho] at q
    exact q
end
end My
open PySem PySem.Spec PyProof.Rows L2 Gd
namespace My
section
variable {P : Program} {w : World} {K : PySem.W.Frag} {mg : Str → Option Value} {base : Heap}
def stp (z : List Str × Str) (c : Nat) : List Str × Str := if c = 32 then (z.1 ++ [z.2], "") else (z.1, z.2 ++ ⟨#[c]⟩)
def prts (z : Str) : List Str := ((tl z).foldl stp ([], "")).1 ++ [((tl z).foldl stp ([], "")).2]
theorem joinL_snoc (s : List Nat) (p : List Nat) : ∀ ys : List (List Nat), TL.joinL s (ys ++ [p]) = if ys = [] then p else TL.joinL s ys ++ s ++ p
  | [] => rfl
  | [y] => by simp [TL.joinL]
  | y :: z :: r => by
    have h := joinL_snoc s p (z :: r)
    rw [if_neg (by simp)] at h
    rw [if_neg (by simp)]
    show TL.joinL s (y :: z :: (r ++ [p])) = _
    rw [TL.joinL, show z :: (r ++ [p]) = (z :: r) ++ [p] from rfl, h, TL.joinL]
    simp only [List.append_assoc]
theorem tl_blank : tl (" " : Str) = [32] := by decide +kernel
theorem stp_run : ∀ (l : List Nat) (acc : List Str) (w : Str), (∀ p ∈ acc ++ [w], 32 ∉ tl p) →
    (∀ p ∈ (l.foldl stp (acc, w)).1 ++ [(l.foldl stp (acc, w)).2], 32 ∉ tl p) ∧ TL.joinL [32] (((l.foldl stp (acc, w)).1 ++ [(l.foldl stp (acc, w)).2]).map tl) = TL.joinL [32] ((acc ++ [w]).map tl) ++ l ∧
      (l.foldl stp (acc, w)).1.length = acc.length + l.count 32
  | [], acc, w, h => ⟨h, by simp, by simp⟩
  | c :: l, acc, w, h => by
    by_cases hc : c = 32
    · subst hc
      have h1 : ∀ p ∈ (acc ++ [w]) ++ [("" : Str)], 32 ∉ tl p := fun p hp => by
        rcases List.mem_append.mp hp with z | z
        · exact h p z
        · rw [List.mem_singleton.mp z]; decide +kernel
      obtain ⟨a, b, d⟩ := stp_run l (acc ++ [w]) "" h1
      have e : (32 :: l).foldl stp (acc, w) = l.foldl stp (acc ++ [w], "") := rfl
      rw [e]
      refine ⟨a, ?_, ?_⟩
      · rw [b, List.map_append, List.map_cons, List.map_nil, joinL_snoc, if_neg (by simp), show tl ("" : Str) = [] by decide +kernel]
        simp only [List.append_assoc, List.nil_append, List.cons_append]
      · rw [d, List.length_append, List.count_cons_self]
        simp only [List.length_cons, List.length_nil]
        omega
    · have h1 : ∀ p ∈ acc ++ [w ++ ⟨#[c]⟩], 32 ∉ tl p := fun p hp => by
        rcases List.mem_append.mp hp with z | z
        · exact h p (by simp [z])
        · rw [List.mem_singleton.mp z, tl_app]
          intro m
          rcases List.mem_append.mp m with m | m
          · exact h w (by simp) m
          · exact hc (List.mem_singleton.mp m).symm
      obtain ⟨a, b, d⟩ := stp_run l acc (w ++ ⟨#[c]⟩) h1
      have e : (c :: l).foldl stp (acc, w) = l.foldl stp (acc, w ++ ⟨#[c]⟩) := by rw [List.foldl_cons, stp, if_neg hc]
      rw [e]
      refine ⟨a, ?_, by rw [d, List.count_cons_of_ne (by omega)]⟩
      rw [b, List.map_append, List.map_append, List.map_cons, List.map_cons, List.map_nil, joinL_snoc, joinL_snoc, tl_app, show tl (⟨#[c]⟩ : Str) = [c] from rfl]
      split <;> simp
theorem prts_facts (z : Str) : (∀ p ∈ prts z, 32 ∉ tl p) ∧ tl (Txt.join " " (prts z)) = tl z ∧ (prts z).length = (tl z).count 32 + 1 := by
  obtain ⟨a, b, d⟩ := stp_run (tl z) [] "" (by intro p hp; rw [List.mem_singleton.mp hp]; decide +kernel)
  refine ⟨a, ?_, ?_⟩
  · rw [tl_joinT, tl_blank, prts, b]
    rfl
  · rw [prts, List.length_append, d]
    simp
theorem split_prts (z : Str) : Txt.split z " " = prts z := by
  obtain ⟨a, b, _⟩ := prts_facts z
  have e : z = Txt.join " " (prts z) := tl_inj b.symm
  conv => lhs; rw [e]
  exact TL.split_join (y := " ") (s := 32) (S := []) (by decide +kernel) (by decide +kernel) (by unfold prts; simp) a
theorem part_len {z p : Str} (h : p ∈ prts z) : p.length ≤ z.length := by
  obtain ⟨_, b, _⟩ := prts_facts z
  have key : ∀ (ys : List (List Nat)) (q : List Nat), q ∈ ys → q.length ≤ (TL.joinL [32] ys).length := by
    intro ys
    induction ys with
    | nil => intro q h; cases h
    | cons y r ih =>
      intro q hq
      cases r with
      | nil => rw [List.mem_singleton.mp hq, TL.joinL]; exact Nat.le_refl _
      | cons y2 r =>
        rw [TL.joinL]
        simp only [List.length_append]
        rcases List.mem_cons.mp hq with e | e
        · rw [e]; omega
        · have := ih q e; omega
  have h2 := key ((prts z).map tl) (tl p) (List.mem_map.mpr ⟨p, h, rfl⟩)
  rw [← show tl (" " : Str) = [32] from tl_blank, ← tl_joinT, b] at h2
  rw [TL.len_tl, TL.len_tl]
  exact h2
theorem part_chr {z p : Str} (h : p ∈ prts z) {c : Nat} (hc : c ∈ tl p) : c ∈ tl z := by
  obtain ⟨_, b, _⟩ := prts_facts z
  have key : ∀ (ys : List (List Nat)) (q : List Nat), q ∈ ys → ∀ c ∈ q, c ∈ TL.joinL [32] ys := by
    intro ys
    induction ys with
    | nil => intro q h; cases h
    | cons y r ih =>
      intro q hq c hc
      cases r with
      | nil => rw [List.mem_singleton.mp hq] at hc; rw [TL.joinL]; exact hc
      | cons y2 r =>
        rw [TL.joinL]
        rcases List.mem_cons.mp hq with e | e
        · rw [e] at hc; simp [hc]
        · simp [ih q e c hc]
  have h2 := key ((prts z).map tl) (tl p) (List.mem_map.mpr ⟨p, h, rfl⟩) c hc
  rw [← show tl (" " : Str) = [32] from tl_blank, ← tl_joinT, b] at h2
  exact h2
theorem spl_eq (z : Str) : spl z = if z.length = 0 then [] else prts z := by unfold spl; rw [split_prts]
/-- a text that may be looked at -/
structure TxOk (z : Str) (n m : Nat) : Prop where
  len : z.length ≤ n
  cnt : (tl z).count 32 ≤ m
  ch : ∀ c ∈ tl z, c < 1114112
theorem TxOk.mono {z : Str} {n m n' m' : Nat} (h : TxOk z n m) (h1 : n ≤ n') (h2 : m ≤ m') : TxOk z n' m' := ⟨Nat.le_trans h.len h1, Nat.le_trans h.cnt h2, h.ch⟩
theorem TxOk.spl {z : Str} {n m : Nat} (h : TxOk z n m) (hn : n ≤ 10000) (hm : m < 3999) : SplOk z := by
  obtain ⟨_, _, l⟩ := prts_facts z
  have hc := h.cnt
  have hl := h.len
  refine ⟨?_, fun _ => ?_, fun w hw => ?_⟩
  · rw [spl_eq]; split
    · simp
    · omega
  · rw [spl_eq]; split
    · simp
    · omega
  · rw [spl_eq] at hw
    split at hw
    · cases hw
    · have := part_len hw; omega
theorem lt_one (a b : Nat) : decide (tl (⟨#[a]⟩ : Str) < tl (⟨#[b]⟩ : Str)) = decide (a < b) := by
  show decide ([a] < [b]) = _
  have : ([a] < [b]) ↔ a < b := by
    rw [List.cons_lt_cons_iff]
    constructor
    · rintro (h | ⟨_, h⟩)
      · exact h
      · exact absurd h (List.not_lt_nil _)
    · exact .inl
  simp [this]
theorem fl_all {α : Type} (p : α → Bool) (f : α → PyData) : ∀ l : List α, ((l.filter fun a => !p a).map f).isEmpty = l.all p
  | [] => rfl
  | a :: l => by
    have ih := fl_all p f l
    cases h : p a with
    | true => rw [List.filter_cons_of_neg (by simp [h]), List.all_cons, h, ih]; rfl
    | false => rw [List.filter_cons_of_pos (by simp [h]), List.all_cons, h]; rfl
def sp__law_is_word : SpV := fun us c Q => ∃ z : Str, us = [.d (.str z)] ∧ c = [] ∧ z.length ≤ 100000 ∧ (∀ c ∈ tl z, c < 1114112) ∧ Q (.d (.bool (isW z))) []
theorem ok__law_is_word (n : Nm mg)  {f : Addr} {fd : FuncData} (F : Fun K "_law_is_word" "_law_is_word" s__law_is_word f fd) :
    FnOk P w K mg base CX0 1 f fd ["value"] (lift K w sp__law_is_word) := by
  have n_isinstance := n.isinstance_
  have n_len := n.len_
  have n_str := n.str_
  refine FnOk.v F sc__law_is_word (fun us c Q h => ?_) (fun cdv A outer s H E us c Q hr h => ?_)
  · obtain ⟨z, rfl, _⟩ := h; rfl
  obtain ⟨z, rfl, rfl, hz, hc, q⟩ := h
  refine ⟨_, (pss_cons (ps_if (PW.pt (pw_or (pt_not (kpt_u (K := K) rfl (pe_callB (kcu_isi (K := K) rfl) (by rfl) n_isinstance (by decide +kernel) (pa_cons (pv 0) (pa_cons (pe_bltn (v := .ty "str") (by rfl) n_str (by decide +kernel) rfl) pa_nil))) (by intro _; rfl))) (pw_or (pt_cmpR ou_lt (pe_callB (kcu_len (K := K) rfl) (by rfl) n_len (by decide +kernel) (pa_cons (pv 0) pa_nil)) pe_int (nomark _)) (pw_or1 (pt_cmpR ou_gt (pe_callB (kcu_len (K := K) rfl) (by rfl) n_len (by decide +kernel) (pa_cons (pv 0) pa_nil)) pe_int (nomark _))))))
      (pss_one (ps_ret pe_bl))
      pss_nil)
      (pss_one (ps_ret (pe_cmpR (kou_eq (K := K) rfl hr.units) (pe_lc (own := [("letter", 1)]) rfl sc__law_is_word.nd (kpi_u (K := K) rfl (pv 0)) (blkOk_by (own := [("letter", 1)]) (N := N__law_is_word) (sc := defScope s__law_is_word) (by decide +kernel)) (fun _ _ _ _ _ => (pg_name (i := 1) sc__law_is_word.nd rfl (.inl rfl))) (fun _ _ _ _ _ => (pts_one (PW.pt (pw_or (pt_cmpR ou_lt (pv 1) pe_str (nomark _)) (pw_or1 (pt_cmpR ou_gt (pv 1) pe_str (nomark _))))))) (fun _ _ _ _ _ => (pv 1))) (pe_lst pa_nil) (nomark _))))), ?_⟩
  have hz2 : z.length ≤ sizeLine := by rw [sizeLine_eq]; omega
  walk_at "go"
  refine ite2 (fun c1 => ?_) (fun c1 => ?_)
  · walk_at "go"
    rw [show isW z = false by
      simp at c1
      unfold isW
      rw [show decide (0 < z.length) = false from decide_eq_false (by omega), Bool.and_false]] at q
    exact q
  · walk_at "go"
    refine ite2 (fun c2 => ?_) (fun c2 => ?_)
    · walk_at "go"
      rw [show isW z = false by
        simp at c2
        unfold isW isT
        rw [show decide (z.length ≤ 12) = false from decide_eq_false (by omega), Bool.false_and, Bool.false_and]] at q
      exact q
    · simp at c1 c2
      walk_at "go"
      refine vco_s (fun a => if (!low a) = true then some (.str ⟨#[a]⟩) else none) (on_name (by decide)) (by rw [sizeLine_eq]; omega) (fun a ha => ?_) ?_
      · walk_at "go"
        rw [show tl (Str.ofString "a") = tl (⟨#[97]⟩ : Str) by decide +kernel, lt_one]
        refine ite2 (fun c3 => ?_) (fun c3 => ?_)
        · walk_at "go"
          exact ⟨if_pos (by unfold low; simp at c3 ⊢; omega), rfl⟩
        · walk_at "go"
          rw [show tl (Str.ofString "z") = tl (⟨#[122]⟩ : Str) by decide +kernel, lt_one]
          refine ite2 (fun c4 => ?_) (fun c4 => ?_)
          · walk_at "go"
            exact ⟨if_pos (by unfold low; simp at c3 c4 ⊢; omega), rfl⟩
          · exact ⟨if_neg (by unfold low; simp at c3 c4 ⊢; omega), rfl⟩
      · rw [fm_if]
        walk_at "go"
        refine w_eq0 .o (shaped_map _ _ fun a ha => ⟨?_, ?_⟩) ?_
        · rw [PyData.canLay0]
          refine (strOk_iff _).mpr fun x hx => ?_
          rw [List.mem_singleton.mp hx]
          exact hc a ((List.mem_filter.mp ha).1)
        · simp [PyData.depth]
        · rw [fl_all]
          walk_at "go"
          rw [show isW z = (tl z).all low by
            unfold isW isT
            rw [decide_eq_true (show z.length ≤ 12 by omega), decide_eq_true (show 0 < z.length by omega), Bool.true_and, Bool.and_true]] at q
          exact q
theorem pairs_nil {ws : List Str} : (pairsOf ws).isEmpty = (clash ws).isNone := by
  rw [clash_min]
  cases pairsOf ws <;> rfl
theorem pairs_len (ws : List Str) : ∀ l : List Str, (l.flatMap (pairsAt ws)).length ≤ l.length * ws.length
  | [] => by simp
  | a :: l => by
    rw [List.flatMap_cons, List.length_append, List.length_cons, Nat.add_mul]
    have h1 := pairs_len ws l
    have h2 : (pairsAt ws a).length ≤ ws.length := by
      unfold pairsAt
      rw [List.length_map]
      exact List.length_filter_le _ _
    omega
def sp__law_pairs : SpV := fun us c Q => ∃ ws : List Str, us = [.b (ws.map .str)] ∧ c = [] ∧ ws.length ≤ 4000 ∧ (∀ w ∈ ws, isW w = true) ∧ Q (.o ((pairsOf ws).map brD)) []
theorem ok__law_pairs (n : Nm mg)  {f : Addr} {fd : FuncData} (F : Fun K "_law_pairs" "_law_pairs" s__law_pairs f fd) :
    FnOk P w K mg base CX0 1 f fd ["words"] (lift K w sp__law_pairs) := by
  refine FnOk.v F sc__law_pairs (fun us c Q h => ?_) (fun cdv A outer s H E us c Q hr h => ?_)
  · obtain ⟨ws, rfl, _⟩ := h; rfl
  obtain ⟨ws, rfl, rfl, hl, hw, q⟩ := h
  refine ⟨_, (pss_cons (PS.as_c (ps_set (i := 1) sc__law_pairs.nd rfl (.inl rfl) (pe_lst pa_nil)))
      (pss_cons (ps_for PassesOwn.never rfl (kpi_u (K := K) rfl (pv 0)) (pg_name (i := 2) sc__law_pairs.nd rfl (.inr rfl))
      (pss_one (ps_expr (kpe_bm (K := K) rfl PySem.F.plainAttrs_list PySem.F.slot_list_extend PySem.F.type_list_extend mt_extend (pv 1) (pa_cons (pe_lc (own := [("other", 3)]) rfl sc__law_pairs.nd (kpi_u (K := K) rfl (pv 0)) (blkOk_by (own := [("other", 3)]) (N := N__law_pairs) (sc := defScope s__law_pairs) (by decide +kernel)) (fun _ _ _ _ _ => (pg_name (i := 3) sc__law_pairs.nd rfl (.inl rfl))) (fun _ _ _ _ _ => (pts_one (PW.pt (pw_and (pt_cmpR (kou_ne (K := K) rfl hr.units) (pv 2) (pv 3) (nomark _)) (pw_and1 (kpt_u (K := K) rfl (pe_m1 PySem.F.slot_str_startswith PySem.F.type_str_startswith mt_startswith (pv 3) (pv 2)) (by intro _; rfl))))))) (fun _ _ _ _ _ => (pe_tup (pa_cons (pv 2) (pa_cons (pv 3) pa_nil))))) pa_nil)))))
      (pss_one (ps_ret (pv 1))))), ?_⟩
  walk_at "go"
  refine vfor (it_l .b) (fun i e c => ∃ y2 y3, e = [some (.b (ws.map .str)), some (.c 0), y2, y3] ∧ c = [.l (((ws.take i).flatMap (pairsAt ws)).map brD)]) ⟨_, _, rfl, rfl⟩ (fun _ _ _ _ => .b) ?_ ?_
  · rintro i d e' c' hi hd ⟨y2, y3, rfl, rfl⟩
    obtain ⟨x, ex, rfl⟩ := map_at hd
    have xl := isW_len (hw x (List.mem_of_getElem? ex))
    have st : (ws.take (i + 1)).flatMap (pairsAt ws) = (ws.take i).flatMap (pairsAt ws) ++ pairsAt ws x := by
      rw [List.take_add_one, ex, List.flatMap_append]
      simp
    have l1 := pairs_len ws (ws.take i)
    have l2 : (pairsAt ws x).length ≤ 4000 := by unfold pairsAt; rw [List.length_map]; exact Nat.le_trans (List.length_filter_le _ _) hl
    have l3 : ((ws.take i).flatMap (pairsAt ws)).length ≤ 4000 * 4000 := Nat.le_trans l1 (Nat.mul_le_mul (by rw [List.length_take]; omega) hl)
    rw [st]
    generalize (ws.take i).flatMap (pairsAt ws) = acc at *
    walk_at "go"
    refine vco_lP (isPair x) (fun b => brD (x, b)) .b (on_name (by decide)) (by rw [sizeLine_eq]; omega) (fun b hb => ?_) ?_
    · walk_at "go"
      refine ite2 (fun c => ?_) (fun c => ?_)
      · walk_at "go"
        refine ite2 (fun c2 => ?_) (fun c2 => ?_)
        · walk_at "go"
          exact ⟨by rw [if_pos (show isPair x b = true by unfold isPair; rw [show (!decide (x = b)) = true from c, show Txt.startswith b x = true from c2]; rfl)]; rfl, rfl⟩
        · exact ⟨by rw [if_neg (show ¬ isPair x b = true by unfold isPair; rw [show Txt.startswith b x = false from Bool.eq_false_iff.mpr c2, Bool.and_false]; decide)], rfl⟩
      · walk_at "go"
        exact ⟨by rw [if_neg (show ¬ isPair x b = true by unfold isPair; rw [show (!decide (x = b)) = false from Bool.eq_false_iff.mpr c, Bool.false_and]; decide)], rfl⟩
    · walk_at "go"
      have l4 : (ws.filter (isPair x)).length ≤ 4000 := Nat.le_trans (List.length_filter_le _ _) hl
      refine w_ext (ys := (pairsAt ws x).map brD) rfl (by rw [pairsAt, List.map_map]; exact .o) ?_ ?_
      · rw [sizeLine_eq, List.length_map, List.length_map]
        omega
      walk_at "go"
      refine ⟨_, _, rfl, ?_⟩
      show [Cell.l _] = [Cell.l _]
      rw [List.map_append]
  · rintro e' c' ⟨y2, y3, rfl, rfl⟩
    rw [List.length_map, List.take_length]
    walk_at "go"
    exact q
def sp__law_is_uses : SpV := fun us c Q => ∃ ws : List Str, us = [.b (ws.map .str)] ∧ c = [] ∧ ws.length ≤ 100001 ∧ (∀ w ∈ ws, w.length ≤ 100000 ∧ ∀ c ∈ tl w, c < 1114112) ∧ (ws.all isW = true → ws.length ≤ 4000) ∧ Q (.d (.bool (ws.all isW && (clash ws).isNone))) []
theorem ok__law_is_uses (n : Nm mg) (c__law_is_word : GF P w K mg base 1 "_law_is_word" (lift K w sp__law_is_word)) (c__law_pairs : GF P w K mg base 1 "_law_pairs" (lift K w sp__law_pairs)) {f : Addr} {fd : FuncData} (F : Fun K "_law_is_uses" "_law_is_uses" s__law_is_uses f fd) :
    FnOk P w K mg base CX0 2 f fd ["value"] (lift K w sp__law_is_uses) := by
  have n_isinstance := n.isinstance_
  have n_list := n.list_
  refine FnOk.v F sc__law_is_uses (fun us c Q h => ?_) (fun cdv A outer s H E us c Q hr h => ?_)
  · obtain ⟨ws, rfl, _⟩ := h; rfl
  obtain ⟨ws, rfl, rfl, hl, hw, hl2, q⟩ := h
  refine ⟨_, (pss_cons (ps_if (PW.pt (pw_or (pt_not (kpt_u (K := K) rfl (pe_callB (kcu_isi (K := K) rfl) (by rfl) n_isinstance (by decide +kernel) (pa_cons (pv 0) (pa_cons (pe_bltn (v := .ty "list") (by rfl) n_list (by decide +kernel) rfl) pa_nil))) (by intro _; rfl))) (pw_or1 (pt_cmpR (kou_ne (K := K) rfl hr.units) (pe_lc (own := [("word", 1)]) rfl sc__law_is_uses.nd (kpi_u (K := K) rfl (pv 0)) (blkOk_by (own := [("word", 1)]) (N := N__law_is_uses) (sc := defScope s__law_is_uses) (by decide +kernel)) (fun _ _ _ _ _ => (pg_name (i := 1) sc__law_is_uses.nd rfl (.inl rfl))) (fun _ _ _ _ _ => (pts_one (pt_not (kpt_u (K := K) rfl (pe_fc c__law_is_word hr (by decide) (by rfl) (pa_cons (pv 1) pa_nil)) (by intro _; rfl))))) (fun _ _ _ _ _ => pe_int)) (pe_lst pa_nil) (nomark _)))))
      (pss_one (ps_ret pe_bl))
      pss_nil)
      (pss_one (ps_ret (pe_cmpR (kou_eq (K := K) rfl hr.units) (pe_fc c__law_pairs hr (by decide) (by rfl) (pa_cons (pv 0) pa_nil)) (pe_lst pa_nil) (nomark _))))), ?_⟩
  walk_at "go"
  refine vco_lP (fun w => !isW w) (fun _ => .int 1) .b (on_name (by decide)) (by rw [sizeLine_eq]; omega) (fun x hx => ?_) ?_
  · walk_at "go"
    refine ⟨x, rfl, rfl, (hw x hx).1, (hw x hx).2, ?_⟩
    walk_at "go"
    cases h : isW x with
    | true => exact ⟨rfl, rfl⟩
    | false =>
      walk_at "go"
      exact ⟨rfl, rfl⟩
  · walk_at "go"
    refine w_ne0 .o (shaped_map _ _ fun a ha => ⟨rfl, by decide⟩) ?_
    rw [fl_all]
    cases h : ws.all isW with
    | false =>
      rw [h] at q
      walk_at "go"
      exact q
    | true =>
      rw [h, Bool.true_and] at q
      have ok : ∀ w ∈ ws, isW w = true := List.all_eq_true.mp h
      walk_at "go"
      refine ⟨ws, rfl, rfl, hl2 h, ok, ?_⟩
      walk_at "go"
      refine w_eq0 .o (shaped_rows fun p hp => ?_) ?_
      · obtain ⟨h1, h2, _⟩ := pairs_mem.mp (show (p.1, p.2) ∈ pairsOf ws from hp)
        have l1 := isW_len (ok _ h1)
        have l2 := isW_len (ok _ h2)
        exact ⟨l1, strChars (ok _ h1), by omega, strChars (ok _ h2)⟩
      · rw [List.isEmpty_map, pairs_nil]
        walk_at "go"
        exact q
end
end My
open PySem PySem.Spec PyProof.Rows L2 Gd
namespace My
section
variable {P : Program} {w : World} {K : PySem.W.Frag} {mg : Str → Option Value} {base : Heap}
structure Pb (xs : List PyData) (n : Nat) : Prop where
  ex : ∃ i j k : Int, xs = [.int i, .int j, .int k] ∧ 0 ≤ i ∧ 0 ≤ j ∧ j < 10 ^ 40 ∧ 0 ≤ k ∧ k ≤ n
theorem Pb.mono {xs : List PyData} {n m : Nat} (h : Pb xs n) (l : n ≤ m) : Pb xs m := by
  obtain ⟨i, j, k, h1, h2, h3, h4, h5, h6⟩ := h
  exact ⟨i, j, k, h1, h2, h3, h4, h5, by omega⟩
def sp__law_source : SpV := fun us c Q => ∃ (v : Int) (k : Nat), us = [.d (.int v), .d (.int k)] ∧ c = [] ∧ k < 100 ∧ ∀ xs, Pb xs 0 → Q (.o xs) []
theorem ok__law_source (n : Nm mg)  {f : Addr} {fd : FuncData} (F : Fun K "_law_source" "_law_source" s__law_source f fd) :
    FnOk P w K mg base CX0 1 f fd ["cell", "k"] (lift K w sp__law_source) := by
  have n_max := n.max_
  refine FnOk.v F sc__law_source (fun us c Q h => ?_) (fun cdv A outer s H E us c Q hr h => ?_)
  · obtain ⟨v, k, rfl, _⟩ := h; rfl
  obtain ⟨v, k, rfl, rfl, hk, q⟩ := h
  refine ⟨_, (pss_one (ps_ret (pe_lst (pa_cons (pe_callB (call_max2 rfl) (by rfl) n_max (by decide +kernel) (pa_cons pe_int (pa_cons (pe_op ou_sub (pv 0) (pe_op ou_pow pe_int pe_int)) pa_nil))) (pa_cons (pe_op (kou_add (K := K) rfl) (pe_op ou_mul (pe_op ou_mod (pv 0) (pe_op (kou_add (K := K) rfl) (pe_op ou_pow pe_int pe_int) pe_int)) pe_int) (pv 1)) (pa_cons pe_int pa_nil)))))), ?_⟩
  walk_at "go"
  have m0 : 0 ≤ v % (10 ^ Int.toNat 37 + 43) := Int.emod_nonneg _ (by decide)
  have m1 : v % (10 ^ Int.toNat 37 + 43) < 10 ^ 37 + 43 := Int.emod_lt_of_pos _ (by decide)
  exact q _ ⟨_, _, _, rfl, by split <;> omega, by omega, by omega, by decide, by decide⟩
def sp__law_draw : SpV := fun us c Q => ∃ (xs : List PyData) (n : Nat) (m : Int), us = [.c 0, .d (.int m)] ∧ c = [.l xs] ∧ Pb xs n ∧ n < 2 ^ 60 ∧ 0 < m ∧ m.natAbs.log2 < 9000 ∧
  ∀ d ys, Pb ys (n + 1) → 0 ≤ d → d < m → Q (.d (.int d)) [.l ys]
theorem ok__law_draw (n : Nm mg)  {f : Addr} {fd : FuncData} (F : Fun K "_law_draw" "_law_draw" s__law_draw f fd) :
    FnOk P w K mg base CX0 1 f fd ["source", "count"] (liftC K w sp__law_draw) := by
  refine FnOk.v F sc__law_draw (fun us c Q h => ?_) (fun cdv A outer s H E us c Q hr h => ?_)
  · obtain ⟨xs, n, m, rfl, _⟩ := h; rfl
  obtain ⟨xs, c, m, rfl, rfl, ⟨i, j, k, rfl, hi0, hj0, hj1, hk0, hk1⟩, hn, hm, hm2, q⟩ := h
  refine ⟨_, (pss_cons (ps_if (pt_cmpR ou_gt (pe_ix (kix_seq (K := K) rfl) (pv 0) pe_int (fun _ _ => rfl)) pe_int (nomark _))
      (pss_cons (ps_set (i := 2) sc__law_draw.nd rfl (.inl rfl) (pe_op ou_mod (pe_ix (kix_seq (K := K) rfl) (pv 0) pe_int (fun _ _ => rfl)) (pv 1)))
        (pss_cons (ps_asg (pe_op ou_div (pe_ix (kix_seq (K := K) rfl) (pv 0) pe_int (fun _ _ => rfl)) (pv 1)) (pg_sub (pv 0) pe_int set_list))
        (pss_one (ps_ret (pv 2)))))
      pss_nil)
      (pss_cons (ps_asg (pe_op (kou_add (K := K) rfl) (pe_ix (kix_seq (K := K) rfl) (pv 0) pe_int (fun _ _ => rfl)) pe_int) (pg_sub (pv 0) pe_int set_list))
      (pss_cons (ps_set (i := 3) sc__law_draw.nd rfl (.inl rfl) (pe_op ou_mod (pe_op ou_pow (pe_op (kou_add (K := K) rfl) (pe_ix (kix_seq (K := K) rfl) (pv 0) pe_int (fun _ _ => rfl)) (pe_op ou_mul pe_int (pe_ix (kix_seq (K := K) rfl) (pv 0) pe_int (fun _ _ => rfl)))) pe_int) (pe_op (kou_add (K := K) rfl) (pe_op ou_pow pe_int pe_int) pe_int)))
      (pss_cons (ps_set (i := 3) sc__law_draw.nd rfl (.inl rfl) (pe_op ou_mod (pe_op ou_pow (pe_op (kou_add (K := K) rfl) (pv 3) (pe_op ou_mul pe_int (pe_ix (kix_seq (K := K) rfl) (pv 0) pe_int (fun _ _ => rfl)))) pe_int) (pe_op (kou_add (K := K) rfl) (pe_op ou_pow pe_int pe_int) pe_int)))
      (pss_one (ps_ret (pe_op ou_mod (pe_op ou_div (pv 3) pe_int) (pv 1)))))))), ?_⟩
  walk_at "go"
  refine ite2 (fun c2 => ?_) (fun c2 => ?_)
  · walk_at "go"
    exact q _ _ ⟨_, _, _, rfl, Int.ediv_nonneg hi0 (by omega), hj0, hj1, hk0, by omega⟩ (Int.emod_nonneg _ (by omega)) (Int.emod_lt_of_pos _ hm)
  · walk_at "go"
    refine w_pow (powW (n := 141) (by decide) (by omega) (by decide) (by decide)) ?_
    walk_at "go"
    generalize hr : (j + 900867 * (k + 1)) ^ Int.toNat 3 % (10 ^ Int.toNat 38 + 133) = r
    have r0 : 0 ≤ r := by rw [← hr]; exact Int.emod_nonneg _ (by decide)
    have r1 : r < 10 ^ 38 + 133 := by rw [← hr]; exact Int.emod_lt_of_pos _ (by decide)
    clear hr
    refine w_pow (powW (n := 141) (by decide) (by omega) (by decide) (by decide)) ?_
    walk_at "go"
    exact q _ _ ⟨_, _, _, rfl, hi0, hj0, hj1, by omega, by omega⟩ (Int.emod_nonneg _ (by omega)) (Int.emod_lt_of_pos _ hm)
def sp__law_word : SpV := fun us c Q => ∃ (pl : List PyData) (n m : Nat) (L : Str), us = [.c 0, .d (.str L), .d (.int m)] ∧ c = [.l pl] ∧ Pb pl n ∧ n < 2 ^ 50 ∧ 0 < L.length ∧ L.length ≤ 1000 ∧ m ≤ 1000 ∧
  ∀ (x : Str) (pl' : List PyData), x.length = m → (∀ c ∈ tl x, c ∈ tl L) → Pb pl' (n + 1) → Q (.d (.str x)) [.l pl']
theorem ok__law_word (n : Nm mg) (c__law_draw : GF P w K mg base 1 "_law_draw" (liftC K w sp__law_draw)) {f : Addr} {fd : FuncData} (F : Fun K "_law_word" "_law_word" s__law_word f fd) :
    FnOk P w K mg base CX0 2 f fd ["source", "letters", "size"] (liftC K w sp__law_word) := by
  have n_len := n.len_
  have n_range := n.range_
  refine FnOk.v F sc__law_word (fun us c Q h => ?_) (fun cdv A outer s H E us c Q hr h => ?_)
  · obtain ⟨pl, n, m, L, rfl, _⟩ := h; rfl
  obtain ⟨pl, n', m, L, rfl, rfl, hp, hn, hL0, hL1, hm, q⟩ := h
  refine ⟨_, (pss_cons (PS.as_p false false (ps_par (i := 3) (j := 4) rfl sc__law_word.nd rfl rfl (by decide) rfl rfl (pa_cons (pe_fc c__law_draw hr (by decide) (by rfl) (pa_cons (pv 0) (pa_cons (pe_op ou_pow pe_int pe_int) pa_nil))) (pa_cons pe_str pa_nil)) (by rfl)))
      (pss_cons (ps_for PassesOwn.never rfl (pi_range1 (by rfl) n_range (pa_cons (pv 2) pa_nil)) (pg_name (i := 5) sc__law_word.nd rfl (.inl rfl))
      (pss_cons (ps_set (i := 4) sc__law_word.nd rfl (.inl rfl) (pe_op (kou_add (K := K) rfl) (pv 4) (pe_ix (kix_seq (K := K) rfl) (pv 1) (pe_op ou_mod (pv 3) (pe_callB (kcu_len (K := K) rfl) (by rfl) n_len (by decide +kernel) (pa_cons (pv 1) pa_nil))) (fun _ _ => rfl))))
        (pss_one (ps_set (i := 3) sc__law_word.nd rfl (.inl rfl) (pe_op ou_div (pv 3) (pe_callB (kcu_len (K := K) rfl) (by rfl) n_len (by decide +kernel) (pa_cons (pv 1) pa_nil)))))))
      (pss_one (ps_ret (pv 4))))), ?_⟩
  walk_at "go"
  refine ⟨pl, _, _, rfl, rfl, hp, by omega, by decide, by decide +kernel, fun d p1 hp1 d0 d1 => ?_⟩
  walk_at "go"
  refine vforA (it_1 (by omega) (by omega)) (fun i e c => ∃ (y5 : Option W) (nb : Int) (x : Str), e = [some (.c 0), some (.d (.str L)), some (.d (.int m)), some (.d (.int nb)), some (.d (.str x)), y5] ∧ c = [.l p1] ∧ x.length = i ∧ (∀ c ∈ tl x, c ∈ tl L) ∧ 0 ≤ nb ∧ nb < 10 ^ 18) ⟨_, d, "", rfl, rfl, by decide +kernel, fun c hc => absurd hc (by rw [show tl ("" : Str) = [] from by decide +kernel]; simp), d0, d1⟩ (fun _ _ _ _ => trivial) ?_ ?_
  · rintro i d e' c' hi rfl ⟨y5, nb, x, rfl, rfl, xl, xm, b0, b1⟩
    have hi2 : i < m := by omega
    walk_at "go"
    obtain ⟨a, ea, ma⟩ := atI_lt (xs := tl L) (i := nb % (L.length : Int)) (Int.emod_nonneg _ (by omega)) (by rw [← TL.len_tl]; exact Int.emod_lt_of_pos _ (by omega))
    refine w_ixS (by rw [sizeLine_eq]; omega) ea ?_
    have l1 : (⟨#[a]⟩ : Str).length = 1 := len_one _
    refine w_addS (by rw [sizeLine_eq, l1]; omega) ?_
    walk_at "go"
    refine w_div (by omega) (log_small (by omega)) ?_
    walk_at "go"
    refine ⟨_, nb / (L.length : Int), x ++ ⟨#[a]⟩, rfl, rfl, by rw [len_app, l1, xl], fun z hz => ?_, Int.ediv_nonneg b0 (by omega), Int.lt_of_le_of_lt (Int.ediv_le_self _ b0) b1⟩
    rcases mem_app.mp hz with h | h
    · exact xm z h
    · rw [mem_one.mp h]; exact ma
  · rintro e' c' ⟨y5, nb, x, rfl, rfl, xl, xm, b0, b1⟩
    walk_at "go"
    exact q x p1 (by omega) xm hp1
def sp__law_fits : SpV := fun us c Q => ∃ (ts : List Str) (x : Str), us = [.b (ts.map .str), .d (.str x)] ∧ c = [] ∧ ts.length ≤ 2000 ∧ (∀ w ∈ ts, w.length ≤ 12) ∧ x.length ≤ 12 ∧ Q (.d (.bool (ts.all (fits x)))) []
theorem ok__law_fits (n : Nm mg)  {f : Addr} {fd : FuncData} (F : Fun K "_law_fits" "_law_fits" s__law_fits f fd) :
    FnOk P w K mg base CX0 1 f fd ["words", "word"] (lift K w sp__law_fits) := by
  refine FnOk.v F sc__law_fits (fun us c Q h => ?_) (fun cdv A outer s H E us c Q hr h => ?_)
  · obtain ⟨ts, x, rfl, _⟩ := h; rfl
  obtain ⟨ts, x, rfl, rfl, hl, ht, hx, q⟩ := h
  refine ⟨_, (pss_one (ps_ret (pe_cmpR (kou_eq (K := K) rfl hr.units) (pe_lc (own := [("other", 2)]) rfl sc__law_fits.nd (kpi_u (K := K) rfl (pv 0)) (blkOk_by (own := [("other", 2)]) (N := N__law_fits) (sc := defScope s__law_fits) (by decide +kernel)) (fun _ _ _ _ _ => (pg_name (i := 2) sc__law_fits.nd rfl (.inl rfl))) (fun _ _ _ _ _ => (pts_one (PW.pt (pw_or (kpt_u (K := K) rfl (pe_m1 PySem.F.slot_str_startswith PySem.F.type_str_startswith mt_startswith (pv 1) (pv 2)) (by intro _; rfl)) (pw_or1 (kpt_u (K := K) rfl (pe_m1 PySem.F.slot_str_startswith PySem.F.type_str_startswith mt_startswith (pv 2) (pv 1)) (by intro _; rfl))))))) (fun _ _ _ _ _ => pe_int)) (pe_lst pa_nil) (nomark _)))), ?_⟩
  walk_at "go"
  refine vco_lP (ys := ts) (fun o => Txt.startswith x o || Txt.startswith o x) (fun _ => .int 1) .b (on_name (by decide)) (by rw [sizeLine_eq]; omega) (fun o ho => ?_) ?_
  · have ol := ht o ho
    walk_at "go"
    refine ite2 (fun c => ?_) (fun c => ?_)
    · have c1 : (Txt.startswith x o || Txt.startswith o x) = true := by rw [c]; rfl
      refine ite_t rfl ?_
      walk_at "go"
      exact ⟨by rw [if_pos c1], rfl⟩
    · walk_at "go"
      refine ite2 (fun c' => ?_) (fun c' => ?_)
      · have c1 : (Txt.startswith x o || Txt.startswith o x) = true := by rw [c', Bool.or_true]
        walk_at "go"
        exact ⟨by rw [if_pos c1], rfl⟩
      · have c1 : ¬ (Txt.startswith x o || Txt.startswith o x) = true := by
          rw [Bool.eq_false_iff.mpr c, Bool.eq_false_iff.mpr c']
          decide
        exact ⟨by rw [if_neg c1], rfl⟩
  walk_at "go"
  refine w_eq0 .o (shaped_ones _) ?_
  walk_at "go"
  have e : ((ts.filter fun o => Txt.startswith x o || Txt.startswith o x).map fun _ => PyData.int 1).isEmpty = ts.all (fits x) := by
    rw [List.isEmpty_map, Bool.eq_iff_iff, List.isEmpty_iff, List.filter_eq_nil_iff, List.all_eq_true]
    refine forall_congr' fun o => forall_congr' fun _ => ?_
    unfold fits
    rw [Bool.or_comm (Txt.startswith o x)]
    cases (Txt.startswith x o || Txt.startswith o x) <;> decide
  rw [e]
  exact q
theorem sign_ok {L : Str} (h : L = "ab" ∨ L = "abc" ∨ L = "abcdefghijklmnopqrstuvwxyz") : 1 ≤ L.length ∧ L.length ≤ 1000 ∧ ∀ c ∈ tl L, 97 ≤ c ∧ c ≤ 122 := by
  have h3 : ∀ L ∈ (["ab", "abc", "abcdefghijklmnopqrstuvwxyz"] : List Str), 1 ≤ L.length ∧ L.length ≤ 1000 ∧ ∀ c ∈ tl L, 97 ≤ c ∧ c ≤ 122 := by decide +kernel
  rcases h with rfl | rfl | rfl
  · exact h3 _ (by simp)
  · exact h3 _ (by simp)
  · exact h3 _ (by simp)
theorem pick4 {a b c w : Int} (h0 : 0 ≤ w) (h1 : w < 4) (ha : 1 ≤ a ∧ a ≤ 12) (hb : 1 ≤ b ∧ b ≤ 12) (hc : 1 ≤ c ∧ c ≤ 12) : ∃ S : Nat, atI [PyData.int a, .int b, .int 1, .int c] w = some (.int (S : Int)) ∧ 1 ≤ S ∧ S ≤ 12 ∧ (w = 2 → S = 1) := by
  obtain ⟨a, rfl⟩ := Int.eq_ofNat_of_zero_le (show 0 ≤ a by omega)
  obtain ⟨b, rfl⟩ := Int.eq_ofNat_of_zero_le (show 0 ≤ b by omega)
  obtain ⟨c, rfl⟩ := Int.eq_ofNat_of_zero_le (show 0 ≤ c by omega)
  obtain rfl | rfl | rfl | rfl : w = 0 ∨ w = 1 ∨ w = 2 ∨ w = 3 := by omega
  · exact ⟨a, rfl, by omega, by omega, fun z => by omega⟩
  · exact ⟨b, rfl, by omega, by omega, fun z => by omega⟩
  · exact ⟨1, rfl, by omega, by omega, fun z => rfl⟩
  · exact ⟨c, rfl, by omega, by omega, fun z => by omega⟩
/-- words, none of which begins with another one -/
def sp__law_words : SpV := fun us c Q => ∃ (pl : List PyData) (n : Nat) (m : Int), us = [.c 0, .d (.int m)] ∧ c = [.l pl] ∧ Pb pl n ∧ n < 2 ^ 40 ∧ 1 ≤ m ∧ m ≤ 120 ∧
  ∀ (ws : List Str) (pl' : List PyData), Bk ws 120 → Pb pl' (n + 5000) → Q (.o (ws.map .str)) [.l pl']
theorem ok__law_words (n : Nm mg) (c__law_draw : GF P w K mg base 1 "_law_draw" (liftC K w sp__law_draw)) (c__law_fits : GF P w K mg base 1 "_law_fits" (lift K w sp__law_fits)) (c__law_word : GF P w K mg base 2 "_law_word" (liftC K w sp__law_word)) {f : Addr} {fd : FuncData} (F : Fun K "_law_words" "_law_words" s__law_words f fd) :
    FnOk P w K mg base CX0 3 f fd ["source", "most"] (liftC K w sp__law_words) := by
  have n_len := n.len_
  have n_min := n.min_
  have n_range := n.range_
  refine FnOk.v F sc__law_words (fun us c Q h => ?_) (fun cdv A outer s H E us c Q hr h => ?_)
  · obtain ⟨pl, n, m, rfl, _⟩ := h; rfl
  obtain ⟨pl, n', m, rfl, rfl, hp, hn, m0, m1, q⟩ := h
  refine ⟨_, (pss_cons (ps_set (i := 2) sc__law_words.nd rfl (.inl rfl) (pe_ix (kix_seq (K := K) rfl) (pe_lst (pa_cons pe_str (pa_cons pe_str (pa_cons pe_str pa_nil)))) (pe_fc c__law_draw hr (by decide) (by rfl) (pa_cons (pv 0) (pa_cons pe_int pa_nil))) (fun _ _ => rfl)))
      (pss_cons (ps_set (i := 3) sc__law_words.nd rfl (.inl rfl) (pe_ix (kix_seq (K := K) rfl) (pe_lst (pa_cons (pe_fc c__law_draw hr (by decide) (by rfl) (pa_cons (pv 0) (pa_cons pe_int pa_nil))) (pa_cons (pe_fc c__law_draw hr (by decide) (by rfl) (pa_cons (pv 0) (pa_cons (pe_op (kou_add (K := K) rfl) (pv 1) pe_int) pa_nil))) (pa_cons (pv 1) pa_nil)))) (pe_fc c__law_draw hr (by decide) (by rfl) (pa_cons (pv 0) (pa_cons pe_int pa_nil))) (fun _ _ => rfl)))
      (pss_cons (PS.as_p3 false false true (ps_par3 (i := 4) (j := 5) (k := 6) rfl sc__law_words.nd rfl rfl rfl (by decide) (by decide) (by decide) rfl rfl rfl (pa_cons (pe_op (kou_add (K := K) rfl) pe_int (pe_fc c__law_draw hr (by decide) (by rfl) (pa_cons (pv 0) (pa_cons pe_int pa_nil)))) (pa_cons (pe_fc c__law_word hr (by decide) (by rfl) (pa_cons (pv 0) (pa_cons (pv 2) (pa_cons pe_int pa_nil)))) (pa_cons (pe_lst pa_nil) pa_nil))) (by rfl)))
      (pss_cons (ps_for PassesOwn.never rfl (pi_range1 (by rfl) n_range (pa_cons (pe_callB (call_min2 rfl) (by rfl) n_min (by decide +kernel) (pa_cons (pv 3) (pa_cons (pv 1) pa_nil))) pa_nil)) (pg_name (i := 7) sc__law_words.nd rfl (.inl rfl))
      (pss_cons (ps_set (i := 8) sc__law_words.nd rfl (.inl rfl) (pe_fc c__law_draw hr (by decide) (by rfl) (pa_cons (pv 0) (pa_cons pe_int pa_nil))))
        (pss_cons (ps_set (i := 9) sc__law_words.nd rfl (.inl rfl) (pe_fc c__law_word hr (by decide) (by rfl) (pa_cons (pv 0) (pa_cons (pv 2) (pa_cons (pe_ix (kix_seq (K := K) rfl) (pe_lst (pa_cons (pe_op (kou_add (K := K) rfl) pe_int (pe_fc c__law_draw hr (by decide) (by rfl) (pa_cons (pv 0) (pa_cons pe_int pa_nil)))) (pa_cons (pv 4) (pa_cons pe_int (pa_cons (pe_op (kou_add (K := K) rfl) pe_int (pe_fc c__law_draw hr (by decide) (by rfl) (pa_cons (pv 0) (pa_cons pe_int pa_nil)))) pa_nil))))) (pv 8) (fun _ _ => rfl)) pa_nil)))))
        (pss_cut (ps_if (pt_cmpR (kou_eq (K := K) rfl hr.units) (pv 8) pe_int (nomark _))
      (pss_one (ps_set (i := 9) sc__law_words.nd rfl (.inl rfl) (pe_op (kou_add (K := K) rfl) (pe_slice (ksl_u (K := K) rfl) (pv 5) po_none (po_some (pe_fc c__law_draw hr (by decide) (by rfl) (pa_cons (pv 0) (pa_cons pe_int pa_nil))))) (pv 9))))
      pss_nil)
        (pss_cut (ps_if (PW.pt (pw_and (pt_cmpR (kou_eq (K := K) rfl hr.units) (pv 8) pe_int (nomark _)) (pw_and1 (pt_cmpR (kou_ne (K := K) rfl hr.units) (pv 6) (pe_lst pa_nil) (nomark _)))))
      (pss_one (ps_set (i := 9) sc__law_words.nd rfl (.inl rfl) (pe_slice (ksl_u (K := K) rfl) (pe_op (kou_add (K := K) rfl) (pe_slice (ksl_u (K := K) rfl) (pe_ix (kix_seq (K := K) rfl) (pv 6) (pe_fc c__law_draw hr (by decide) (by rfl) (pa_cons (pv 0) (pa_cons (pe_callB (kcu_len (K := K) rfl) (by rfl) n_len (by decide +kernel) (pa_cons (pv 6) pa_nil)) pa_nil))) (fun _ _ => rfl)) po_none (po_some (pe_un un_neg pe_int))) (pv 9)) po_none (po_some pe_int))))
      pss_nil)
        (pss_one (ps_if (kpt_u (K := K) rfl (pe_fc c__law_fits hr (by decide) (by rfl) (pa_cons (pv 6) (pa_cons (pv 9) pa_nil))) (by intro _; rfl))
      (pss_one (ps_expr (kpe_bm (K := K) rfl PySem.F.plainAttrs_list PySem.F.slot_list_append PySem.F.type_list_append mt_append (pv 6) (pa_cons (pv 9) pa_nil))))
      pss_nil)))))))
      (pss_one (ps_ret (pv 6))))))), ?_⟩
  walk_at "go"
  refine ⟨pl, n', 3, rfl, rfl, hp, by omega, by decide, by decide, fun d3 p3 hp3 d30 d31 => ?_⟩
  walk_at "go"
  obtain ⟨v, ev, mv⟩ := atI_lt (xs := [PyData.str "ab", .str "abc", .str "abcdefghijklmnopqrstuvwxyz"]) d30 d31
  obtain ⟨L, rfl, hL0, hL1, hLc⟩ : ∃ L : Str, v = .str L ∧ 1 ≤ L.length ∧ L.length ≤ 1000 ∧ ∀ c ∈ tl L, 97 ≤ c ∧ c ≤ 122 := by
    simp only [List.mem_cons, List.not_mem_nil, or_false] at mv
    rcases mv with rfl | rfl | rfl
    · exact ⟨_, rfl, sign_ok (.inl rfl)⟩
    · exact ⟨_, rfl, sign_ok (.inr (.inl rfl))⟩
    · exact ⟨_, rfl, sign_ok (.inr (.inr rfl))⟩
  refine w_ixL .o ev ?_
  walk_at "go"
  refine ⟨p3, _, 5, rfl, rfl, hp3, by omega, by decide, by decide, fun a1 p4 hp4 a10 a11 => ?_⟩
  walk_at "go"
  refine ⟨p4, _, _, rfl, rfl, hp4, by omega, by omega, log_small (by omega), fun a2 p5 hp5 a20 a21 => ?_⟩
  walk_at "go"
  refine ⟨p5, _, 3, rfl, rfl, hp5, by omega, by decide, by decide, fun a3 p6 hp6 a30 a31 => ?_⟩
  walk_at "go"
  clear hp hp3 hp4 hp5 ev mv
  obtain ⟨v, ev, mv⟩ := atI_lt (xs := [PyData.int a1, .int a2, .int m]) a30 a31
  obtain ⟨M, rfl, hM0, hM1⟩ : ∃ M : Int, v = .int M ∧ 0 ≤ M ∧ M ≤ 120 := by
    simp only [List.mem_cons, List.not_mem_nil, or_false] at mv
    rcases mv with rfl | rfl | rfl
    · exact ⟨_, rfl, by omega, by omega⟩
    · exact ⟨_, rfl, by omega, by omega⟩
    · exact ⟨_, rfl, by omega, by omega⟩
  refine w_ixL .o ev ?_
  walk_at "go"
  refine ⟨p6, _, 12, rfl, rfl, hp6, by omega, by decide, by decide, fun a4 p7 hp7 a40 a41 => ?_⟩
  walk_at "go"
  refine ⟨p7, _, 11, L, rfl, rfl, hp7, by omega, hL0, hL1, by decide, fun T p8 tl1 tc hp8 => ?_⟩
  walk_at "go"
  clear hp6 hp7 ev mv
  have hT : ∀ c ∈ tl T, 97 ≤ c ∧ c ≤ 122 := fun c hc => hLc c (tc c hc)
  refine vforA (it_1 (by split <;> omega) (by split <;> omega)) (fun i e c => ∃ (y7 y8 y9 : Option W) (ts : List Str) (pl : List PyData), e = [some (.c 0), some (.d (.int m)), some (.d (.str L)), some (.d (.int M)), some (.d (.int (1 + a4))), some (.d (.str T)), some (.c 1), y7, y8, y9] ∧ c = [.l pl, .l (ts.map .str)] ∧ Pb pl (n' + 6 + 40 * i) ∧ ts.length ≤ i ∧ (∀ w ∈ ts, okW w) ∧ (ts.Pairwise fun o x => fits x o = true)) ⟨_, _, _, [], p8, rfl, rfl, hp8.mono (by omega), by simp, by simp, by simp⟩ (fun _ _ _ _ => trivial) ?_ ?_
  · clear hp8
    rintro i d e' c' hi rfl ⟨y7, y8, y9, ts, pl, rfl, rfl, hp, hl, ok, ap⟩
    have hi2 : i < 120 := by split at hi <;> omega
    walk_at "go"
    refine ⟨pl, _, 4, rfl, rfl, hp, by omega, by decide, by decide, fun d5 p5 hp5 d50 d51 => ?_⟩
    walk_at "go"
    refine ⟨p5, _, 12, rfl, rfl, hp5, by omega, by decide, by decide, fun d6 p6 hp6 d60 d61 => ?_⟩
    walk_at "go"
    refine ⟨p6, _, 3, rfl, rfl, hp6, by omega, by decide, by decide, fun d7 p7 hp7 d70 d71 => ?_⟩
    walk_at "go"
    obtain ⟨S, eS, S0, S1, S2⟩ := pick4 (a := 1 + d6) (b := 1 + a4) (c := 1 + d7) d50 d51 (by omega) (by omega) (by omega)
    refine w_ixL .o eS ?_
    walk_at "go"
    refine ⟨p7, _, S, L, rfl, rfl, hp7, by omega, hL0, hL1, by omega, fun x p8 xl xc hp8 => ?_⟩
    clear hp hp5 hp6 hp7
    have hx : ∀ c ∈ tl x, 97 ≤ c ∧ c ≤ 122 := fun c hc => hLc c (xc c hc)
    walk_at "go"
    refine v_cut (fun e c => ∃ (b : Str) (pl : List PyData), e = [some (.c 0), some (.d (.int m)), some (.d (.str L)), some (.d (.int M)), some (.d (.int (1 + a4))), some (.d (.str T)), some (.c 1), some (.d (.int (i : Int))), some (.d (.int d5)), some (.d (.str b))] ∧ c = [.l pl, .l (ts.map .str)] ∧ Pb pl (n' + 6 + 40 * i + 5) ∧ 1 ≤ b.length ∧ b.length ≤ 12 ∧ ∀ c ∈ tl b, 97 ≤ c ∧ c ≤ 122) ?_ ?_
    · walk_at "go"
      refine ite2 (fun c => ?_) (fun c => ?_)
      · have c2 : d5 = 2 := of_decide_eq_true c
        have xl1 := S2 c2
        walk_at "go"
        refine ⟨p8, _, 12, rfl, rfl, hp8, by omega, by decide, by decide, fun d9 p9 hp9 d90 d91 => ?_⟩
        walk_at "go"
        have cl2 := cut_to_len T d90
        have hc2 : ∀ c ∈ tl (cutS T none (some d9)), 97 ≤ c ∧ c ≤ 122 := fun c hc => hT c (cut_mem hc)
        generalize cutS T none (some d9) = b2 at *
        refine w_addS (by rw [sizeLine_eq]; omega) ?_
        walk_at "go"
        refine ⟨_, _, rfl, rfl, hp9.mono (by omega), by rw [len_app]; omega, by rw [len_app]; omega, fun z hz => ?_⟩
        rcases mem_app.mp hz with h | h
        · exact hc2 z h
        · exact hx z h
      · walk_at "go"
        exact ⟨_, _, rfl, rfl, hp8.mono (by omega), by omega, by omega, hx⟩
    · clear hp8 hx xc xl
      rintro e' c' ⟨x, pl, rfl, rfl, hp, x0, x1, hx⟩
      walk_at "go"
      refine v_cut (fun e c => ∃ (b : Str) (pl : List PyData), e = [some (.c 0), some (.d (.int m)), some (.d (.str L)), some (.d (.int M)), some (.d (.int (1 + a4))), some (.d (.str T)), some (.c 1), some (.d (.int (i : Int))), some (.d (.int d5)), some (.d (.str b))] ∧ c = [.l pl, .l (ts.map .str)] ∧ Pb pl (n' + 6 + 40 * i + 6) ∧ okW b) ?_ ?_
      · walk_at "go"
        refine ite2 (fun c => ?_) (fun c => ?_)
        · walk_at "go"
          refine w_ne0 (.c rfl) (shaped_strs ts fun w h => strOk_w (okW_isW (ok w h))) ?_
          walk_at "go"
          refine ite2 (fun c => ?_) (fun c => ?_)
          · have hne : 0 < ts.length := by
              cases ts with
              | nil => simp at c
              | cons _ _ => simp
            walk_at "go"
            refine ⟨pl, _, _, rfl, rfl, hp, by omega, by rw [List.length_map]; omega, log_small (by rw [List.length_map]; omega), fun d9 p9 hp9 d90 d91 => ?_⟩
            walk_at "go"
            obtain ⟨v, ev, mv⟩ := atI_lt (xs := ts.map PyData.str) d90 d91
            obtain ⟨o, ho, rfl⟩ := List.mem_map.mp mv
            refine w_ixL (.c rfl) ev ?_
            have ol := (ok o ho).2.1
            walk_at "go"
            have cl2 := cutS_length o none (some (-1))
            have hc2 : ∀ c ∈ tl (cutS o none (some (-1))), 97 ≤ c ∧ c ≤ 122 := fun c hc => (ok o ho).2.2 c (cut_mem hc)
            generalize cutS o none (some (-1)) = b2 at *
            have z1 : b2.length + x.length ≤ sizeLine := by rw [sizeLine_eq]; omega
            try (refine w_addS z1 ?_)
            walk_at "go"
            try (refine w_slS (by rw [len_app]; exact z1) ?_)
            walk_at "go"
            refine ⟨_, _, rfl, rfl, hp9.mono (by omega), ?_⟩
            have cl3 := cut_to_len (b2 ++ x) (show (0 : Int) ≤ 12 by decide)
            rw [len_app] at cl3
            have t12 : Int.toNat 12 = 12 := rfl
            refine ⟨by omega, by omega, fun c hc => ?_⟩
            rcases mem_app.mp (cut_mem hc) with h | h
            · exact hc2 c h
            · exact hx c h
          · walk_at "go"
            exact ⟨_, _, rfl, rfl, hp.mono (by omega), x0, x1, hx⟩
        · walk_at "go"
          exact ⟨_, _, rfl, rfl, hp.mono (by omega), x0, x1, hx⟩
      · clear hp x0 x1 hx
        rintro e' c' ⟨b, pl, rfl, rfl, hp, okx⟩
        walk_at "go"
        refine ⟨ts, b, rfl, rfl, by omega, fun w hw => (ok w hw).2.1, okx.2.1, ?_⟩
        walk_at "go"
        refine ite2 (fun c => ?_) (fun c => ?_)
        · walk_at "go"
          refine w_app rfl rfl (by rw [sizeLine_eq, List.length_map]; omega) ?_
          walk_at "go"
          have hf := List.all_eq_true.mp c
          refine ⟨_, _, _, ts ++ [b], pl, rfl, ?_, hp.mono (by omega), by rw [List.length_append]; simp only [List.length_cons, List.length_nil]; omega, fun w hw => ?_, ?_⟩
          · show [Cell.l _, Cell.l _] = [Cell.l _, Cell.l _]
            rw [List.map_append]
            rfl
          · rcases List.mem_append.mp hw with h | h
            · exact ok w h
            · rw [List.mem_singleton.mp h]
              exact okx
          · refine List.pairwise_append.mpr ⟨ap, List.pairwise_singleton _ _, fun a ha b' hb => ?_⟩
            rw [List.mem_singleton.mp hb]
            exact hf a ha
        · walk_at "go"
          exact ⟨_, _, _, ts, pl, rfl, rfl, hp.mono (by omega), by omega, ok, ap⟩
  · rintro e' c' ⟨y7, y8, y9, ts, pl, rfl, rfl, hp, hl, ok, ap⟩
    walk_at "go"
    exact q ts pl ⟨by split at hl <;> omega, ok, ap⟩ (hp.mono (by split <;> omega))
end
end My
open PySem PySem.Spec PyProof.Rows L2 Gd
namespace My
section
variable {P : Program} {w : World} {K : PySem.W.Frag} {mg : Str → Option Value} {base : Heap}
theorem stp_le : ∀ (l : List Nat) (acc : List Str) (w : Str), ((l.foldl stp (acc, w)).1.length ≤ acc.length + l.length) ∧ (l.foldl stp (acc, w)).2.length ≤ w.length + l.length
  | [], _, _ => ⟨Nat.le_refl _, Nat.le_refl _⟩
  | c :: l, acc, w => by
    rw [List.foldl_cons, stp]
    split
    · obtain ⟨h1, h2⟩ := stp_le l (acc ++ [w]) ""
      have e : ("" : Str).length = 0 := by decide +kernel
      rw [List.length_append] at h1
      simp only [List.length_cons, List.length_nil] at *
      exact ⟨by omega, by omega⟩
    · obtain ⟨h1, h2⟩ := stp_le l acc (w ++ ⟨#[c]⟩)
      rw [len_app, len_one] at h2
      simp only [List.length_cons] at *
      exact ⟨by omega, by omega⟩
theorem dec_blank {a : Nat} : decide (({ cps := #[a] } : Str) = Str.ofString " ") = decide (a = 32) := by
  have : Str.ofString " " = (⟨#[32]⟩ : Str) := by decide +kernel
  simp [this]
def sp__law_parsed : SpV := fun us c Q => ∃ (z : Str), us = [.d (.str z)] ∧ c = [] ∧ TxOk z 99000 3900 ∧ Q (rD (oc (.str z))) []
theorem ok__law_parsed (n : Nm mg) (c__law_is_uses : GF P w K mg base 2 "_law_is_uses" (lift K w sp__law_is_uses)) {f : Addr} {fd : FuncData} (F : Fun K "_law_parsed" "_law_parsed" s__law_parsed f fd) :
    FnOk P w K mg base CX0 3 f fd ["written"] (lift K w sp__law_parsed) := by
  refine FnOk.v F sc__law_parsed (fun us c Q h => ?_) (fun cdv A outer s H E us c Q hr h => ?_)
  · obtain ⟨z, rfl, _⟩ := h; rfl
  obtain ⟨z, rfl, rfl, ok, q⟩ := h
  refine ⟨_, (pss_cons (PS.as_c (ps_set (i := 1) sc__law_parsed.nd rfl (.inl rfl) (pe_lst pa_nil)))
      (pss_cons (ps_set (i := 2) sc__law_parsed.nd rfl (.inl rfl) pe_str)
      (pss_cons (ps_for PassesOwn.never rfl (kpi_u (K := K) rfl (pe_op (kou_add (K := K) rfl) (pv 0) pe_str)) (pg_name (i := 3) sc__law_parsed.nd rfl (.inl rfl))
      (pss_one (ps_if (pt_cmpR (kou_eq (K := K) rfl hr.units) (pv 3) pe_str (nomark _))
      (pss_cons (ps_expr (kpe_bm (K := K) rfl PySem.F.plainAttrs_list PySem.F.slot_list_append PySem.F.type_list_append mt_append (pv 1) (pa_cons (pv 2) pa_nil)))
        (pss_one (ps_set (i := 2) sc__law_parsed.nd rfl (.inl rfl) pe_str)))
      (pss_one (ps_set (i := 2) sc__law_parsed.nd rfl (.inl rfl) (pe_op (kou_add (K := K) rfl) (pv 2) (pv 3)))))))
      (pss_cons (ps_if (pt_cmpR (kou_eq (K := K) rfl hr.units) (pv 0) pe_str (nomark _))
      (pss_one (ps_ret (pe_lst pa_nil)))
      pss_nil)
      (pss_one (ps_ret (pe_ifExp (kpt_u (K := K) rfl (pe_fc c__law_is_uses hr (by decide) (by rfl) (pa_cons (pv 1) pa_nil)) (by intro _; rfl)) (pv 1) pe_str))))))), ?_⟩
  have zl := ok.len
  have e1 : (Str.ofString " ").length = 1 := by decide +kernel
  have ha : z.length + (Str.ofString " ").length ≤ sizeLine := by rw [e1, sizeLine_eq]; omega
  walk_at "go"
  refine vfor it_s (fun i e c => ∃ (y3 : Option W), e = [some (.d (.str z)), some (.c 0), some (.d (.str (((tl (z ++ " ")).take i).foldl stp ([], "")).2)), y3] ∧ c = [.l ((((tl (z ++ " ")).take i).foldl stp ([], "")).1.map .str)]) ⟨_, rfl, rfl⟩ (fun _ _ _ _ => trivial) ?_ ?_
  · rintro i d e' c' hi ⟨a, ea, rfl⟩ ⟨y3, rfl, rfl⟩
    obtain ⟨b1, b2⟩ := stp_le ((tl (z ++ " ")).take i) [] ""
    have e0 : ("" : Str).length = 0 := by decide +kernel
    have lz : (tl (z ++ " ")).length = z.length + 1 := by rw [← TL.len_tl, len_app]; rfl
    rw [List.length_take, e0] at b2
    rw [List.length_take] at b1
    rw [List.take_add_one, ea]
    simp only [List.foldl_append, Option.toList_some, List.foldl_cons, List.foldl_nil]
    generalize ((tl (z ++ " ")).take i).foldl stp ([], "") = r at *
    have lr : r.1.length ≤ 99001 := by simp only [List.length_nil] at b1; omega
    have l2 : r.2.length ≤ 99001 := by omega
    have ha2 : r.2.length + (⟨#[a]⟩ : Str).length ≤ sizeLine := by rw [len_one, sizeLine_eq]; omega
    walk_at "go"
    rw [dec_blank]
    refine ite2 (fun c => ?_) (fun c => ?_)
    · have c : a = 32 := of_decide_eq_true c
      walk_at "go"
      refine w_app rfl rfl (by rw [sizeLine_eq, List.length_map]; omega) ?_
      walk_at "go"
      refine ⟨some (.d (.str ⟨#[a]⟩)), ?_, ?_⟩
      · rw [stp, if_pos c]; rfl
      · rw [stp, if_pos c, List.map_append]; rfl
    · have c : ¬ a = 32 := fun z => c (decide_eq_true z)
      walk_at "go"
      refine ⟨some (.d (.str ⟨#[a]⟩)), ?_, ?_⟩
      · rw [stp, if_neg c]; rfl
      · rw [stp, if_neg c]; rfl
  · rintro e' c' ⟨y3, rfl, rfl⟩
    have e2 : (tl (z ++ " ")).take (z ++ " ").cps.size = tl z ++ [32] := by
      rw [List.take_of_length_le (by show (tl (z ++ " ")).length ≤ (z ++ " ").length; rw [TL.len_tl]; exact Nat.le_refl _), tl_app, tl_blank]
    rw [e2, List.foldl_append]
    have e3 : (([32] : List Nat).foldl stp ((tl z).foldl stp ([], ""))).1 = prts z := by
      rw [List.foldl_cons, List.foldl_nil, stp, if_pos rfl]; rfl
    rw [e3]
    generalize (([32] : List Nat).foldl stp ((tl z).foldl stp ([], ""))).2 = w2
    obtain ⟨p1, _, p3⟩ := prts_facts z
    have pc := ok.cnt
    have pl : (prts z).length ≤ 3901 := by omega
    walk_at "go"
    refine ite2 (fun c => ?_) (fun c => ?_)
    · have c : z = "" := of_decide_eq_true c
      walk_at "go"
      have e4 : oc (.str z) = .list [] := by
        rw [c]
        show (if okH "" = true then PyData.list ((spl "").map .str) else .str "format") = _
        rw [if_pos (by decide +kernel), show spl "" = [] by decide +kernel]
        rfl
      rw [e4] at q
      exact q
    · have c : ¬ z.length = 0 := fun h => c (decide_eq_true (by
        obtain ⟨⟨l⟩⟩ := z
        match l, h with
        | [], _ => rfl))
      have e5 : spl z = prts z := by rw [spl_eq, if_neg c]
      have e6 : oc (.str z) = if ((prts z).all isW && (clash (prts z)).isNone) = true then .list ((prts z).map .str) else .str "format" := by
        rw [← e5]; rfl
      rw [e6] at q
      walk_at "go"
      refine ⟨prts z, rfl, rfl, by omega, fun w hw => ⟨by have := part_len hw; omega, fun c hc => ok.ch c (part_chr hw hc)⟩, fun _ => by omega, ?_⟩
      walk_at "go"
      cases h : ((prts z).all isW && (clash (prts z)).isNone) with
      | true =>
        rw [h, if_pos rfl] at q
        walk_at "go"
        exact q
      | false =>
        rw [h, if_neg (by decide)] at q
        walk_at "go"
        exact q
end
end My
open PySem PySem.Spec PyProof.Rows L2 Gd
namespace My
section
variable {P : Program} {w : World} {K : PySem.W.Frag} {mg : Str → Option Value} {base : Heap}
def sp__law_uses : SpV := fun us c Q => ∃ (pl : List PyData) (n : Nat) (ws : List Str), us = [.c 0, .b (ws.map .str), .d (.int 190)] ∧ c = [.l pl] ∧ Pb pl n ∧ n < 2 ^ 40 ∧ ws.length ≤ 120 ∧ (∀ w ∈ ws, isW w = true) ∧
  ∀ (vs : List Str) (pl' : List PyData), (∀ v ∈ vs, v ∈ ws) → vs.length ≤ 190 → Pb pl' (n + 300) → Q (.o (vs.map .str)) [.l pl']
theorem ok__law_uses (n : Nm mg) (c__law_draw : GF P w K mg base 1 "_law_draw" (liftC K w sp__law_draw)) {f : Addr} {fd : FuncData} (F : Fun K "_law_uses" "_law_uses" s__law_uses f fd) :
    FnOk P w K mg base CX0 2 f fd ["source", "words", "most"] (liftC K w sp__law_uses) := by
  have n_len := n.len_
  have n_min := n.min_
  have n_range := n.range_
  refine FnOk.v F sc__law_uses (fun us c Q h => ?_) (fun cdv A outer s H E us c Q hr h => ?_)
  · obtain ⟨pl, n, ws, rfl, _⟩ := h; rfl
  obtain ⟨pl, n', ws, rfl, rfl, hp, hn, hl, hw, q⟩ := h
  refine ⟨_, (pss_cons (ps_set (i := 3) sc__law_uses.nd rfl (.inl rfl) (pe_ix (kix_seq (K := K) rfl) (pe_lst (pa_cons (pe_fc c__law_draw hr (by decide) (by rfl) (pa_cons (pv 0) (pa_cons pe_int pa_nil))) (pa_cons (pe_fc c__law_draw hr (by decide) (by rfl) (pa_cons (pv 0) (pa_cons (pe_op (kou_add (K := K) rfl) (pv 2) pe_int) pa_nil))) (pa_cons (pv 2) pa_nil)))) (pe_fc c__law_draw hr (by decide) (by rfl) (pa_cons (pv 0) (pa_cons pe_int pa_nil))) (fun _ _ => rfl)))
      (pss_cons (ps_if (pt_cmpR (kou_eq (K := K) rfl hr.units) (pv 1) (pe_lst pa_nil) (nomark _))
      (pss_one (ps_ret (pe_lst pa_nil)))
      pss_nil)
      (pss_one (ps_ret (pe_lc (own := [("step", 4)]) rfl sc__law_uses.nd (pi_range1 (by rfl) n_range (pa_cons (pe_callB (call_min2 rfl) (by rfl) n_min (by decide +kernel) (pa_cons (pv 3) (pa_cons (pv 2) pa_nil))) pa_nil)) (blkOk_by (own := [("step", 4)]) (N := N__law_uses) (sc := defScope s__law_uses) (by decide +kernel)) (fun _ _ _ _ _ => (pg_name (i := 4) sc__law_uses.nd rfl (.inl rfl))) (fun _ _ _ _ _ => pts_nil) (fun _ _ _ _ _ => (pe_ix (kix_seq (K := K) rfl) (pv 1) (pe_fc c__law_draw hr (by decide) (by rfl) (pa_cons (pv 0) (pa_cons (pe_callB (kcu_len (K := K) rfl) (by rfl) n_len (by decide +kernel) (pa_cons (pv 1) pa_nil)) pa_nil))) (fun _ _ => rfl)))))))), ?_⟩
  walk_at "go"
  refine ⟨pl, n', 6, rfl, rfl, hp, by omega, by decide, by decide, fun d1 p1 hp1 d10 d11 => ?_⟩
  walk_at "go"
  refine ⟨p1, _, 191, rfl, rfl, hp1, by omega, by decide, by decide, fun d2 p2 hp2 d20 d21 => ?_⟩
  walk_at "go"
  refine ⟨p2, _, 3, rfl, rfl, hp2, by omega, by decide, by decide, fun d3 p3 hp3 d30 d31 => ?_⟩
  walk_at "go"
  obtain ⟨v, ev, mv⟩ := atI_lt (xs := [PyData.int d1, .int d2, .int 190]) d30 d31
  obtain ⟨y, rfl, y0, y1⟩ : ∃ y : Int, v = .int y ∧ 0 ≤ y ∧ y ≤ 190 := by
    simp only [List.mem_cons, List.not_mem_nil, or_false] at mv
    rcases mv with rfl | rfl | rfl
    · exact ⟨_, rfl, by omega, by omega⟩
    · exact ⟨_, rfl, by omega, by omega⟩
    · exact ⟨_, rfl, by omega, by omega⟩
  refine w_ixL .o ev ?_
  walk_at "go"
  refine w_eq0 .b (shaped_strs ws fun w h => strOk_w (hw w h)) ?_
  walk_at "go"
  refine ite2 (fun c => ?_) (fun c => ?_)
  · walk_at "go"
    exact q [] p3 (by simp) (by simp) (hp3.mono (by omega))
  · have wn : 0 < ws.length := by
      cases ws with
      | nil => exact absurd rfl c
      | cons _ _ => simp
    walk_at "go"
    generalize hm : (if (190 : Int) < y then (190 : Int) else y) = m
    have hm2 : 0 ≤ m ∧ m ≤ 190 := by rw [← hm]; split <;> omega
    clear hm
    refine vcoA (it_1 (by omega) (by omega)) (on_name (by decide)) (by rw [sizeLine_eq]; omega) (fun i acc c' => ∃ pl' vs, c' = [.l pl'] ∧ Pb pl' (n' + 3 + i) ∧ acc = vs.map .str ∧ vs.length = i ∧ ∀ v ∈ vs, v ∈ ws) ⟨_, [], rfl, hp3.mono (by omega), rfl, rfl, by simp⟩ (fun _ _ _ _ => trivial) ?_ ?_
    · rintro i d acc c' hi hal rfl ⟨pl', vs, rfl, hp', rfl, vl, vm⟩
      walk_at "go"
      refine ⟨pl', _, _, rfl, rfl, hp', by omega, by rw [List.length_map]; omega, log_small (by rw [List.length_map]; omega), fun d4 p4 hp4 d40 d41 => ?_⟩
      walk_at "go"
      obtain ⟨v, ev, mv⟩ := atI_lt (xs := ws.map PyData.str) d40 d41
      obtain ⟨x, hx, rfl⟩ := List.mem_map.mp mv
      refine w_ixL .b ev ?_
      refine ⟨_, rfl, p4, vs ++ [x], rfl, hp4.mono (by omega), by simp, by simp [vl], fun v hv => ?_⟩
      rcases List.mem_append.mp hv with h | h
      · exact vm v h
      · rw [List.mem_singleton.mp h]; exact hx
    · rintro acc c' ⟨pl', vs, rfl, hp', rfl, vl, vm⟩
      walk_at "go"
      exact q vs pl' vm (by omega) (hp'.mono (by omega))
def cutL {α : Type} (xs : List α) (lo hi : Option Int) : List α := (xs.drop (HT.sIx xs.length 0 lo)).take (HT.sIx xs.length xs.length hi - HT.sIx xs.length 0 lo)
theorem cutL_map (xs : List Str) (lo hi : Option Int) : Gd.cutD (xs.map .str) lo hi = (cutL xs lo hi).map .str := by
  unfold Gd.cutD cutL
  rw [List.length_map, List.map_take, List.map_drop]
theorem cutL_sub {α : Type} (xs : List α) (lo hi : Option Int) : List.Sublist (cutL xs lo hi) xs := (List.take_sublist _ _).trans (List.drop_sublist _ _)
theorem cutL_to {α : Type} (xs : List α) {d : Int} (h : 0 ≤ d) : cutL xs none (some d) = xs.take d.toNat := by
  unfold cutL
  have e := HT.sIx_nat xs.length xs.length d.toNat
  rw [Int.toNat_of_nonneg h] at e
  rw [e, HT.sIx_none, List.drop_zero, Nat.sub_zero]
  by_cases hd : d.toNat ≤ xs.length
  · rw [Nat.min_eq_left hd]
  · rw [Nat.min_eq_right (by omega), List.take_of_length_le (by omega), List.take_of_length_le (by omega)]
theorem cutL_from {α : Type} (xs : List α) {d : Int} (h : 0 ≤ d) : cutL xs (some d) none = xs.drop d.toNat := by
  unfold cutL
  have e := HT.sIx_nat xs.length 0 d.toNat
  rw [Int.toNat_of_nonneg h] at e
  rw [e, HT.sIx_none]
  by_cases hd : d.toNat ≤ xs.length
  · rw [Nat.min_eq_left hd, List.take_of_length_le (by rw [List.length_drop]; omega)]
  · rw [Nat.min_eq_right (by omega), List.drop_of_length_le (Nat.le_refl _), List.drop_of_length_le (by omega), List.take_nil]
def U (ws : List Str) : Nat := (ws.map fun w => w.length + 1).sum
theorem U_app (a b : List Str) : U (a ++ b) = U a + U b := by unfold U; rw [List.map_append, List.sum_append]
theorem U_one (a : Str) : U [a] = a.length + 1 := by simp [U]
theorem U_sub {a b : List Str} (h : List.Sublist a b) : U a ≤ U b := by
  induction h with
  | slnil => exact Nat.le_refl _
  | cons x _ ih => simp only [U, List.map_cons, List.sum_cons] at *; omega
  | cons_cons x _ ih => simp only [U, List.map_cons, List.sum_cons] at *; omega
theorem U_td (ws : List Str) (k : Nat) : U (ws.take k) + U (ws.drop k) = U ws := by rw [← U_app, List.take_append_drop]
theorem U_rev : ∀ ws : List Str, U ws.reverse = U ws
  | [] => rfl
  | w :: ws => by
    rw [List.reverse_cons, U_app, U_rev ws, U_one]
    simp only [U, List.map_cons, List.sum_cons]
    omega
theorem U_eq (ws : List Str) : (ws.map (·.length)).sum + ws.length = U ws := by
  induction ws with
  | nil => rfl
  | cons w ws ih => simp only [U, List.map_cons, List.sum_cons, List.length_cons] at *; omega
theorem join_U : ∀ ys : List (List Nat), (TL.joinL [32] ys).length ≤ (ys.map fun y => y.length + 1).sum ∧ (ys ≠ [] → (TL.joinL [32] ys).length + 1 = (ys.map fun y => y.length + 1).sum)
  | [] => ⟨by simp [TL.joinL], fun h => (h rfl).elim⟩
  | [y] => by simp [TL.joinL]
  | y :: z :: r => by
    have h := (join_U (z :: r)).2 (by simp)
    rw [TL.joinL]
    simp only [List.length_append, List.map_cons, List.sum_cons, List.length_cons, List.length_nil] at *
    exact ⟨by omega, fun _ => by omega⟩
theorem U_tl (ws : List Str) : ((ws.map tl).map fun y => y.length + 1).sum = U ws := by
  unfold U
  rw [List.map_map]
  exact congrArg List.sum (List.map_congr_left fun x _ => by show (tl x).length + 1 = _; rw [← TL.len_tl])
theorem U_prts (z : Str) : U (prts z) = z.length + 1 := by
  obtain ⟨_, b, _⟩ := prts_facts z
  have h := (join_U ((prts z).map tl)).2 (by unfold prts; simp)
  rw [U_tl, ← tl_blank, ← tl_joinT, b] at h
  rw [← h, TL.len_tl]
theorem join_cnt : ∀ ys : List (List Nat), (∀ y ∈ ys, 32 ∉ y) → (TL.joinL [32] ys).count 32 ≤ ys.length
  | [], _ => by simp [TL.joinL]
  | [y], h => by simp [TL.joinL, List.count_eq_zero.mpr (h y (by simp))]
  | y :: z :: r, h => by
    have ih := join_cnt (z :: r) fun q hq => h q (by simp [hq])
    rw [TL.joinL, List.count_append, List.count_append, List.count_eq_zero.mpr (h y (by simp))]
    simp only [List.length_cons] at *
    rw [show ([32] : List Nat).count 32 = 1 from rfl]
    omega
theorem join_ch : ∀ ys : List (List Nat), (∀ y ∈ ys, ∀ c ∈ y, c < 1114112) → ∀ c ∈ TL.joinL [32] ys, c < 1114112
  | [], _ => by simp [TL.joinL]
  | [y], h => by
    rw [TL.joinL]
    exact h y (by simp)
  | y :: z :: r, h => by
    have ih := join_ch (z :: r) fun q hq => h q (by simp [hq])
    rw [TL.joinL]
    intro c hc
    simp only [List.mem_append, List.mem_singleton] at hc
    rcases hc with hc | hc | hc
    · exact h y (by simp) c hc
    · rw [hc]; decide
    · exact ih c hc
/-- parts that may be joined -/
structure PsOk (ws : List Str) (n m : Nat) : Prop where
  u : U ws ≤ n
  l : ws.length ≤ m
  no : ∀ w ∈ ws, 32 ∉ tl w ∧ ∀ c ∈ tl w, c < 1114112
theorem PsOk.join {ws : List Str} {n m : Nat} (h : PsOk ws n m) : TxOk (Txt.join " " ws) n m := by
  have e := tl_joinT " " ws
  rw [tl_blank] at e
  refine ⟨?_, ?_, ?_⟩
  · have h1 := (join_U (ws.map tl)).1
    rw [U_tl, ← e] at h1
    rw [TL.len_tl]
    exact Nat.le_trans h1 h.u
  · rw [e]
    refine Nat.le_trans (join_cnt _ fun y hy => ?_) (by rw [List.length_map]; exact h.l)
    obtain ⟨w, hw, rfl⟩ := List.mem_map.mp hy
    exact (h.no w hw).1
  · rw [e]
    refine join_ch _ fun y hy => ?_
    obtain ⟨w, hw, rfl⟩ := List.mem_map.mp hy
    exact (h.no w hw).2
theorem prts_ok {z : Str} {n m : Nat} (h : TxOk z n m) : PsOk (prts z) (n + 1) (m + 1) := by
  obtain ⟨a, _, l⟩ := prts_facts z
  have h1 := h.len
  have h2 := h.cnt
  exact ⟨by rw [U_prts]; omega, by omega, fun w hw => ⟨a w hw, fun c hc => h.ch c (part_chr hw hc)⟩⟩
theorem tx_cut {z : Str} {n m : Nat} (h : TxOk z n m) (lo hi : Option Int) : TxOk (cutS z lo hi) n m := by
  have s : List.Sublist (tl (cutS z lo hi)) (tl z) := (List.take_sublist _ _).trans (List.drop_sublist _ _)
  refine ⟨?_, Nat.le_trans (s.count_le 32) h.cnt, fun c hc => h.ch c (s.subset hc)⟩
  have := s.length_le
  rw [TL.len_tl]
  have h2 := h.len
  rw [TL.len_tl] at h2
  exact Nat.le_trans this h2
theorem tx_app {a b : Str} {n m n' m' : Nat} (h : TxOk a n m) (g : TxOk b n' m') : TxOk (a ++ b) (n + n') (m + m') := by
  refine ⟨by rw [len_app]; have := h.len; have := g.len; omega, by rw [tl_app, List.count_append]; have := h.cnt; have := g.cnt; omega, fun c hc => ?_⟩
  rw [tl_app] at hc
  exact (List.mem_append.mp hc).elim (h.ch c) (g.ch c)
end
end My
open PySem PySem.Spec PyProof.Rows L2 Gd
namespace My
section
variable {P : Program} {w : World} {K : PySem.W.Frag} {mg : Str → Option Value} {base : Heap}
theorem len_cut (z : Str) (lo hi : Option Int) : (cutS z lo hi).length ≤ z.length := by
  have s : List.Sublist (tl (cutS z lo hi)) (tl z) := (List.take_sublist _ _).trans (List.drop_sublist _ _)
  rw [TL.len_tl, TL.len_tl]
  exact s.length_le
def sp__law_damaged : SpV := fun us c Q => ∃ (pl : List PyData) (n : Nat) (z : Str) (ps : List Str) (L m : Nat), us = [.c 0, .d (.str z), .b (ps.map .str), .d (.str " ")] ∧ c = [.l pl] ∧ Pb pl n ∧ n < 2 ^ 40 ∧ TxOk z L m ∧ L ≤ 30000 ∧ m ≤ 1000 ∧
  0 < ps.length ∧ ps.length ≤ 100 ∧ (∀ p ∈ ps, TxOk p 20 0) ∧ ∀ z' pl', TxOk z' (2 * L + 50) (2 * m + 2) → Pb pl' (n + 10) → Q (.d (.str z')) [.l pl']
theorem ok__law_damaged (n : Nm mg) (c__law_draw : GF P w K mg base 1 "_law_draw" (liftC K w sp__law_draw)) {f : Addr} {fd : FuncData} (F : Fun K "_law_damaged" "_law_damaged" s__law_damaged f fd) :
    FnOk P w K mg base CX0 2 f fd ["source", "line", "pool", "mark"] (liftC K w sp__law_damaged) := by
  have n_len := n.len_
  refine FnOk.v F sc__law_damaged (fun us c Q h => ?_) (fun cdv A outer s H E us c Q hr h => ?_)
  · obtain ⟨pl, n, z, ps, L, m, rfl, _⟩ := h; rfl
  obtain ⟨pl, n', z, ps, L, m, rfl, rfl, hp, hn, ok, hL, hm, p0, p1, pok, q⟩ := h
  refine ⟨_, (pss_cons (ps_set (i := 4) sc__law_damaged.nd rfl (.inl rfl) (pe_split (pv 1) (pv 3)))
      (pss_cons (ps_set (i := 5) sc__law_damaged.nd rfl (.inl rfl) (pe_fc c__law_draw hr (by decide) (by rfl) (pa_cons (pv 0) (pa_cons (pe_callB (kcu_len (K := K) rfl) (by rfl) n_len (by decide +kernel) (pa_cons (pv 4) pa_nil)) pa_nil))))
      (pss_cons (ps_set (i := 6) sc__law_damaged.nd rfl (.inl rfl) (pe_ix (kix_seq (K := K) rfl) (pv 2) (pe_fc c__law_draw hr (by decide) (by rfl) (pa_cons (pv 0) (pa_cons (pe_callB (kcu_len (K := K) rfl) (by rfl) n_len (by decide +kernel) (pa_cons (pv 2) pa_nil)) pa_nil))) (fun _ _ => rfl)))
      (pss_cons (ps_set (i := 7) sc__law_damaged.nd rfl (.inl rfl) (pe_fc c__law_draw hr (by decide) (by rfl) (pa_cons (pv 0) (pa_cons pe_int pa_nil))))
      (pss_cons (ps_if (pt_cmpR (kou_eq (K := K) rfl hr.units) (pv 7) pe_int (nomark _))
      (pss_one (ps_ret (pe_slice (ksl_u (K := K) rfl) (pv 1) po_none (po_some (pe_fc c__law_draw hr (by decide) (by rfl) (pa_cons (pv 0) (pa_cons (pe_op (kou_add (K := K) rfl) (pe_callB (kcu_len (K := K) rfl) (by rfl) n_len (by decide +kernel) (pa_cons (pv 1) pa_nil)) pe_int) pa_nil)))))))
      pss_nil)
      (pss_cons (ps_if (pt_cmpR (kou_eq (K := K) rfl hr.units) (pv 7) pe_int (nomark _))
      (pss_cons (ps_set (i := 8) sc__law_damaged.nd rfl (.inl rfl) (pe_fc c__law_draw hr (by decide) (by rfl) (pa_cons (pv 0) (pa_cons (pe_op (kou_add (K := K) rfl) (pe_callB (kcu_len (K := K) rfl) (by rfl) n_len (by decide +kernel) (pa_cons (pv 1) pa_nil)) pe_int) pa_nil))))
        (pss_one (ps_ret (pe_op (kou_add (K := K) rfl) (pe_op (kou_add (K := K) rfl) (pe_slice (ksl_u (K := K) rfl) (pv 1) po_none (po_some (pv 8))) (pe_slice (ksl_u (K := K) rfl) (pv 6) po_none (po_some pe_int))) (pe_slice (ksl_u (K := K) rfl) (pv 1) (po_some (pe_op (kou_add (K := K) rfl) (pv 8) (pe_fc c__law_draw hr (by decide) (by rfl) (pa_cons (pv 0) (pa_cons pe_int pa_nil))))) po_none)))))
      pss_nil)
      (pss_cons (ps_set (i := 9) sc__law_damaged.nd rfl (.inl rfl) (pe_lst (pa_cons (pe_op (kou_add (K := K) rfl) (pe_slice (ksl_u (K := K) rfl) (pv 4) po_none (po_some (pv 5))) (pe_slice (ksl_u (K := K) rfl) (pv 4) (po_some (pe_op (kou_add (K := K) rfl) (pv 5) pe_int)) po_none)) (pa_cons (pe_op (kou_add (K := K) rfl) (pe_op (kou_add (K := K) rfl) (pe_slice (ksl_u (K := K) rfl) (pv 4) po_none (po_some (pv 5))) (pe_lst (pa_cons (pv 6) pa_nil))) (pe_slice (ksl_u (K := K) rfl) (pv 4) (po_some (pv 5)) po_none)) (pa_cons (pe_op (kou_add (K := K) rfl) (pe_op (kou_add (K := K) rfl) (pe_slice (ksl_u (K := K) rfl) (pv 4) po_none (po_some (pv 5))) (pe_lst (pa_cons (pv 6) pa_nil))) (pe_slice (ksl_u (K := K) rfl) (pv 4) (po_some (pe_op (kou_add (K := K) rfl) (pv 5) pe_int)) po_none)) pa_nil)))))
      (pss_cons (ps_set (i := 9) sc__law_damaged.nd rfl (.inl rfl) (pe_op (kou_add (K := K) rfl) (pv 9) (pe_lst (pa_cons (pe_op (kou_add (K := K) rfl) (pe_op (kou_add (K := K) rfl) (pe_slice (ksl_u (K := K) rfl) (pv 4) po_none (po_some (pv 5))) (pe_slice (ksl_u (K := K) rfl) (pv 4) (po_some (pv 5)) (po_some (pe_op (kou_add (K := K) rfl) (pv 5) pe_int)))) (pe_slice (ksl_u (K := K) rfl) (pv 4) (po_some (pv 5)) po_none)) (pa_cons (pe_op (kou_add (K := K) rfl) (pe_slice (ksl_u (K := K) rfl) (pv 4) po_none (po_some (pv 5))) (kpe_revL (K := K) rfl (pe_slice (ksl_u (K := K) rfl) (pv 4) (po_some (pv 5)) po_none))) pa_nil)))))
      (pss_one (ps_ret (kpe_join (K := K) rfl (pv 3) (pe_ix (kix_seq (K := K) rfl) (pv 9) (pv 7) (fun _ _ => rfl))))))))))))), ?_⟩
  have zl := ok.len
  have hz2 : z.length ≤ sizeLine := by rw [sizeLine_eq]; omega
  obtain ⟨_, _, pn⟩ := prts_facts z
  have pc := ok.cnt
  have po := prts_ok ok
  have hp1 : (prts z).length ≤ 1001 := by omega
  walk_at "go"
  refine w_split (by decide +kernel) (by rw [sizeLine_eq]; omega) ?_
  rw [show Txt.split z (Str.ofString " ") = prts z from split_prts z]
  have hp0 : 0 < (prts z).length := by omega
  generalize prts z = R at *
  walk_at "go"
  refine ⟨pl, n', _, rfl, rfl, hp, by omega, by rw [List.length_map]; omega, log_small (by rw [List.length_map]; omega), fun at_ p1_ hp1_ a0 a1 => ?_⟩
  walk_at "go"
  refine ⟨p1_, _, _, rfl, rfl, hp1_, by omega, by rw [List.length_map]; omega, log_small (by rw [List.length_map]; omega), fun d2 p2_ hp2_ d20 d21 => ?_⟩
  walk_at "go"
  obtain ⟨v, ev, mv⟩ := atI_lt (xs := ps.map PyData.str) d20 d21
  obtain ⟨odd, hodd, rfl⟩ := List.mem_map.mp mv
  refine w_ixL .b ev ?_
  have oo := pok odd hodd
  have ool := oo.len
  walk_at "go"
  refine ⟨p2_, _, 7, rfl, rfl, hp2_, by omega, by decide, by decide, fun kd p3_ hp3_ k0 k1 => ?_⟩
  walk_at "go"
  refine ite2 (fun c => ?_) (fun c => ?_)
  · walk_at "go"
    refine ⟨p3_, _, _, rfl, rfl, hp3_, by omega, by omega, log_small (by omega), fun d4 p4_ hp4_ d40 d41 => ?_⟩
    walk_at "go"
    exact q _ _ ((tx_cut ok _ _).mono (by omega) (by omega)) (hp4_.mono (by omega))
  · walk_at "go"
    refine ite2 (fun c5 => ?_) (fun c5 => ?_)
    · walk_at "go"
      refine ⟨p3_, _, _, rfl, rfl, hp3_, by omega, by omega, log_small (by omega), fun d4 p4_ hp4_ d40 d41 => ?_⟩
      have l1 := len_cut z none (some d4)
      have l2 := len_cut odd none (some 1)
      have hzo : odd.length ≤ sizeLine := by rw [sizeLine_eq]; omega
      have ha1 : (cutS z none (some d4)).length + (cutS odd none (some 1)).length ≤ sizeLine := by rw [sizeLine_eq]; omega
      walk_at "go"
      refine ⟨p4_, _, 2, rfl, rfl, hp4_, by omega, by decide, by decide, fun d5 p5_ hp5_ d50 d51 => ?_⟩
      walk_at "go"
      have l3 := len_cut z (some (d4 + d5)) none
      refine w_addS (by rw [len_app, sizeLine_eq]; omega) ?_
      walk_at "go"
      exact q _ _ ((tx_app (tx_app (tx_cut ok _ _) (tx_cut oo _ _)) (tx_cut ok _ _)).mono (by omega) (by omega)) (hp5_.mono (by omega))
    · have c1 : kd ≠ 6 := by simpa using c
      have c2 : kd ≠ 5 := by simpa using c5
      have hk : kd < 5 := by omega
      have q1 := (cutL_sub R none (some at_)).length_le
      have q2 := (cutL_sub R (some (at_ + 1)) none).length_le
      have q3 := (cutL_sub R (some at_) none).length_le
      have q4 := (cutL_sub R (some at_) (some (at_ + 1))).length_le
      have e1 := cutL_map R none (some at_)
      have e2 := cutL_map R (some (at_ + 1)) none
      have e3 := cutL_map R (some at_) none
      have e4 := cutL_map R (some at_) (some (at_ + 1))
      have f1 := congrArg List.length e1
      have f2 := congrArg List.length e2
      have f3 := congrArg List.length e3
      have f4 := congrArg List.length e4
      rw [List.length_map] at f1 f2 f3 f4
      walk_at "go"
      refine ⟨_, .o, ?_⟩
      refine w_addL .o .o (by rw [List.length_reverse, sizeLine_eq]; omega) ?_
      walk_at "go"
      obtain ⟨x, ex, mx⟩ := atI_lt (xs := [PyData.list (Gd.cutD (R.map .str) none (some at_) ++ Gd.cutD (R.map .str) (some (at_ + 1)) none), .list (Gd.cutD (R.map .str) none (some at_) ++ [.str odd] ++ Gd.cutD (R.map .str) (some at_) none), .list (Gd.cutD (R.map .str) none (some at_) ++ [.str odd] ++ Gd.cutD (R.map .str) (some (at_ + 1)) none)] ++ [.list (Gd.cutD (R.map .str) none (some at_) ++ Gd.cutD (R.map .str) (some at_) (some (at_ + 1)) ++ Gd.cutD (R.map .str) (some at_) none), .list (Gd.cutD (R.map .str) none (some at_) ++ (Gd.cutD (R.map .str) (some at_) none).reverse)]) k0 (by show kd < 5; exact hk)
      refine w_ixL .d ex ?_
      have u1 := U_td R at_.toNat
      rw [← cutL_to R a0, ← cutL_from R a0] at u1
      have u2 : U (cutL R (some (at_ + 1)) none) ≤ U (cutL R (some at_) none) := by
        rw [cutL_from R a0, cutL_from R (show 0 ≤ at_ + 1 by omega), show (at_ + 1).toNat = at_.toNat + 1 by omega]
        exact U_sub (by rw [← List.drop_drop]; exact List.drop_sublist _ _)
      have u4 := U_sub (cutL_sub R (some at_) (some (at_ + 1)))
      have ou := U_one odd
      have no1 : ∀ lo hi, ∀ w ∈ cutL R lo hi, 32 ∉ tl w ∧ ∀ c ∈ tl w, c < 1114112 := fun lo hi w hw => po.no w ((cutL_sub R lo hi).subset hw)
      have noo : ∀ w ∈ [odd], 32 ∉ tl w ∧ ∀ c ∈ tl w, c < 1114112 := fun w hw => by
        rw [List.mem_singleton.mp hw]
        exact ⟨List.count_eq_zero.mp (by have := oo.cnt; omega), oo.ch⟩
      have noa : ∀ {a b : List Str}, (∀ w ∈ a, 32 ∉ tl w ∧ ∀ c ∈ tl w, c < 1114112) → (∀ w ∈ b, 32 ∉ tl w ∧ ∀ c ∈ tl w, c < 1114112) → ∀ w ∈ a ++ b, 32 ∉ tl w ∧ ∀ c ∈ tl w, c < 1114112 := fun ha hb w hw => (List.mem_append.mp hw).elim (ha w) (hb w)
      have pu := po.u
      have pl2 := po.l
      have key : ∃ ws : List Str, x = .list (ws.map .str) ∧ PsOk ws (2 * L + 50) (2 * m + 2) := by
        rw [e1, e2, e3, e4] at mx
        have g1 : (cutL R none (some at_)).length + (cutL R (some at_) none).length = R.length := by
          rw [cutL_to R a0, cutL_from R a0, List.length_take, List.length_drop]; omega
        have g2 : (cutL R (some (at_ + 1)) none).length ≤ (cutL R (some at_) none).length := by
          rw [cutL_from R a0, cutL_from R (show 0 ≤ at_ + 1 by omega), List.length_drop, List.length_drop]; omega
        have g4 : (cutL R (some at_) (some (at_ + 1))).length ≤ 1 := by
          unfold cutL
          have z1 := HT.sIx_nat R.length 0 at_.toNat
          have z2 := HT.sIx_nat R.length R.length (at_ + 1).toNat
          rw [Int.toNat_of_nonneg a0] at z1
          rw [Int.toNat_of_nonneg (by omega)] at z2
          rw [z1, z2, List.length_take]
          have : (at_ + 1).toNat = at_.toNat + 1 := by omega
          omega
        have hR0 : 0 < R.length := hp0
        simp only [List.mem_append, List.mem_cons, List.not_mem_nil, or_false] at mx
        rcases mx with (rfl | rfl | rfl) | (rfl | rfl)
        · exact ⟨cutL R none (some at_) ++ cutL R (some (at_ + 1)) none, by rw [List.map_append], by rw [U_app]; omega, by rw [List.length_append]; omega, noa (no1 _ _) (no1 _ _)⟩
        · exact ⟨cutL R none (some at_) ++ [odd] ++ cutL R (some at_) none, by rw [List.map_append, List.map_append]; rfl, by rw [U_app, U_app]; omega, by rw [List.length_append, List.length_append]; simp only [List.length_cons, List.length_nil]; omega, noa (noa (no1 _ _) noo) (no1 _ _)⟩
        · exact ⟨cutL R none (some at_) ++ [odd] ++ cutL R (some (at_ + 1)) none, by rw [List.map_append, List.map_append]; rfl, by rw [U_app, U_app]; omega, by rw [List.length_append, List.length_append]; simp only [List.length_cons, List.length_nil]; omega, noa (noa (no1 _ _) noo) (no1 _ _)⟩
        · exact ⟨cutL R none (some at_) ++ cutL R (some at_) (some (at_ + 1)) ++ cutL R (some at_) none, by rw [List.map_append, List.map_append], by rw [U_app, U_app]; omega, by rw [List.length_append, List.length_append]; omega, noa (noa (no1 _ _) (no1 _ _)) (no1 _ _)⟩
        · exact ⟨cutL R none (some at_) ++ (cutL R (some at_) none).reverse, by rw [List.map_append, List.map_reverse], by rw [U_app, U_rev]; omega, by rw [List.length_append, List.length_reverse]; omega, noa (no1 _ _) fun w hw => no1 _ _ w (List.mem_reverse.mp hw)⟩
      obtain ⟨ws, rfl, wok⟩ := key
      have wu := wok.u
      have we := U_eq ws
      walk_at "go"
      refine w_join .d (by rw [show (Str.ofString " ").length = 1 by decide +kernel]; omega) ?_
      walk_at "go"
      exact q _ _ wok.join (hp3_.mono (by omega))
end
end My
open PySem PySem.Spec PyProof.Rows L2 Gd
namespace My
section
variable {P : Program} {w : World} {K : PySem.W.Frag} {mg : Str → Option Value} {base : Heap}
theorem not_dec {p : Prop} [Decidable p] (h : p) : (!decide p) = false := by rw [decide_eq_true h]; rfl
def sp__law_equal : Nat → SpV := fun d us c Q => ∃ x, us = [bw x, bw x] ∧ c = [] ∧ eqOk d x = true ∧ Q (.d (.bool true)) []
theorem no__law_equal : ∀ us c Q, ¬ sp__law_equal 0 us c Q := fun us c Q h => by obtain ⟨x, _, _, h, _⟩ := h; cases x <;> cases h
theorem ok__law_equal (n : Nm mg) (d : Nat)  (c__law_equal : GC P w K mg base (0 + d) "_law_equal" (lift K w (sp__law_equal d))) {f : Addr} {fd : FuncData} (F : Fun K "_law_equal" "_law_equal" s__law_equal f fd) :
    GFn P w K mg base CX0 (0 + d + 1) f fd ["result", "expected"] (lift K w (sp__law_equal (d + 1))) := by
  have n_all := n.all_
  have n_bool := n.bool_
  have n_int := n.int_
  have n_isinstance := n.isinstance_
  have n_len := n.len_
  have n_list := n.list_
  have n_str := n.str_
  have n_tuple := n.tuple_
  have n_zip := n.zip_
  refine GFn.v F sc__law_equal (fun us c Q h => ?_) (fun cdv A outer s H E us c Q gd hr h => ?_)
  · obtain ⟨x, rfl, _⟩ := h; rfl
  obtain ⟨x, rfl, rfl, ok, q⟩ := h
  refine ⟨_, (pss_cons (ps_if (kpt_u (K := K) rfl (pe_callB (kcu_isi2 (K := K) rfl) (by rfl) n_isinstance (by decide +kernel) (pa_cons (pv 1) (pa_cons (pe_tup (pa_cons (pe_bltn (v := .ty "list") (by rfl) n_list (by decide +kernel) rfl) (pa_cons (pe_bltn (v := .ty "tuple") (by rfl) n_tuple (by decide +kernel) rfl) pa_nil))) pa_nil))) (by intro _; rfl))
      (pss_cons (ps_if (PW.pt (pw_or (pt_not (kpt_u (K := K) rfl (pe_callB (kcu_isi2 (K := K) rfl) (by rfl) n_isinstance (by decide +kernel) (pa_cons (pv 0) (pa_cons (pe_tup (pa_cons (pe_bltn (v := .ty "list") (by rfl) n_list (by decide +kernel) rfl) (pa_cons (pe_bltn (v := .ty "tuple") (by rfl) n_tuple (by decide +kernel) rfl) pa_nil))) pa_nil))) (by intro _; rfl))) (pw_or1 (pt_cmpR (kou_ne (K := K) rfl hr.units) (pe_callB (kcu_len (K := K) rfl) (by rfl) n_len (by decide +kernel) (pa_cons (pv 0) pa_nil)) (pe_callB (kcu_len (K := K) rfl) (by rfl) n_len (by decide +kernel) (pa_cons (pv 1) pa_nil)) (nomark _)))))
      (pss_one (ps_ret pe_bl))
      pss_nil)
        (pss_cons (ps_if (pt_cmpR (kou_ne (K := K) rfl hr.units) (pe_callB (kcu_isi (K := K) rfl) (by rfl) n_isinstance (by decide +kernel) (pa_cons (pv 0) (pa_cons (pe_bltn (v := .ty "list") (by rfl) n_list (by decide +kernel) rfl) pa_nil))) (pe_callB (kcu_isi (K := K) rfl) (by rfl) n_isinstance (by decide +kernel) (pa_cons (pv 1) (pa_cons (pe_bltn (v := .ty "list") (by rfl) n_list (by decide +kernel) rfl) pa_nil))) (nomark _))
      (pss_one (ps_ret pe_bl))
      pss_nil)
        (pss_one (ps_ret (pe_callB (kcr_all (K := K) rfl rfl) (by rfl) n_all (by decide +kernel) (pa_cons (pe_lc (own := [("one", 2), ("other", 3)]) rfl sc__law_equal.nd (kpi_zipA (K := K) rfl (by rfl) n_zip (pa_cons (pv 0) (pa_cons (pv 1) pa_nil))) (blkOk_by (own := [("one", 2), ("other", 3)]) (N := N__law_equal) (sc := defScope s__law_equal) (by decide +kernel)) (fun _ _ _ _ _ => (kpg_tup (K := K) (n := 2) rfl rfl (pgs_cons (pg_name (i := 2) sc__law_equal.nd rfl (.inl rfl)) (pgs_cons (pg_name (i := 3) sc__law_equal.nd rfl (.inl rfl)) pgs_nil)))) (fun _ _ _ _ _ => pts_nil) (fun _ _ _ _ _ => (pe_gc c__law_equal gd hr (by omega) (by rfl) (pa_cons (pv 2) (pa_cons (pv 3) pa_nil))))) pa_nil))))))
      pss_nil)
      (pss_cons (ps_if (PW.pt (pw_or (kpt_u (K := K) rfl (pe_callB (kcu_isi2 (K := K) rfl) (by rfl) n_isinstance (by decide +kernel) (pa_cons (pv 1) (pa_cons (pe_tup (pa_cons (pe_bltn (v := .ty "bool") (by rfl) n_bool (by decide +kernel) rfl) (pa_cons (pe_bltn (v := .ty "str") (by rfl) n_str (by decide +kernel) rfl) pa_nil))) pa_nil))) (by intro _; rfl)) (pw_or1 (pt_cmpR op_isN (pv 1) pe_non (nomark _)))))
      (pss_one (ps_ret (kpe_andT (K := K) rfl (pe_cmpR (kou_eq (K := K) rfl hr.units) (pe_callB (kcu_isi (K := K) rfl) (by rfl) n_isinstance (by decide +kernel) (pa_cons (pv 0) (pa_cons (pe_bltn (v := .ty "bool") (by rfl) n_bool (by decide +kernel) rfl) pa_nil))) (pe_callB (kcu_isi (K := K) rfl) (by rfl) n_isinstance (by decide +kernel) (pa_cons (pv 1) (pa_cons (pe_bltn (v := .ty "bool") (by rfl) n_bool (by decide +kernel) rfl) pa_nil))) (nomark _)) (pe_one (pe_cmpR (kou_eq (K := K) rfl hr.units) (pv 0) (pv 1) (nomark _))))))
      pss_nil)
      (pss_one (ps_ret (kpe_andT (K := K) rfl (pe_callB (kcu_isi (K := K) rfl) (by rfl) n_isinstance (by decide +kernel) (pa_cons (pv 0) (pa_cons (pe_bltn (v := .ty "int") (by rfl) n_int (by decide +kernel) rfl) pa_nil))) (kpe_andT (K := K) rfl (kpe_notT (K := K) rfl (pe_callB (kcu_isi (K := K) rfl) (by rfl) n_isinstance (by decide +kernel) (pa_cons (pv 0) (pa_cons (pe_bltn (v := .ty "bool") (by rfl) n_bool (by decide +kernel) rfl) pa_nil)))) (pe_one (pe_cmpR (kou_eq (K := K) rfl hr.units) (pv 0) (pv 1) (nomark _))))))))), ?_⟩
  cases x with
  | none =>
    show VS K w _ (startE _ [.d .none, .d .none]) _ _
    walk_at "go"
    refine w_isi2F .non rfl ?_
    walk_at "go"
    refine w_isi2F .non rfl ?_
    walk_at "go"
    exact q
  | bool b =>
    show VS K w _ (startE _ [.d (.bool b), .d (.bool b)]) _ _
    walk_at "go"
    refine w_isi2F (.bl b) rfl ?_
    walk_at "go"
    refine w_isi2T (.bl b) rfl ?_
    walk_at "go"
    exact q
  | int i =>
    show VS K w _ (startE _ [.d (.int i), .d (.int i)]) _ _
    walk_at "go"
    refine w_isi2F (.int i) rfl ?_
    walk_at "go"
    refine w_isi2F (.int i) rfl ?_
    walk_at "go"
    exact q
  | str s =>
    show VS K w _ (startE _ [.d (.str s), .d (.str s)]) _ _
    walk_at "go"
    refine w_isi2F (.str s) rfl ?_
    walk_at "go"
    refine w_isi2T (.str s) rfl ?_
    walk_at "go"
    exact q
  | list xs =>
    show VS K w _ (startE _ [.b xs, .b xs]) _ _
    simp only [eqOk, Bool.and_eq_true, decide_eq_true_eq, List.all_eq_true] at ok
    walk_at "go"
    refine w_isi2T (.lst .b) rfl ?_
    walk_at "go"
    refine w_isi2T (.lst .b) rfl ?_
    walk_at "go"
    refine ite_f (not_dec rfl) ?_
    walk_at "go"
    try (refine ite_f rfl ?_)
    walk_at "go"
    refine vco_zs (fun _ => .bool true) (it_zA .b .b) ⟨.b, .b⟩ (on_tup (on_cons (by decide) (on_cons (by decide) on_nil))) (by rw [sizeLine_eq]; omega) (fun y hy => ?_) ?_
    · walk_at "go"
      refine ⟨[bw y, bw y], by cases y <;> rfl, y, rfl, rfl, ok.1 y hy, ?_⟩
      walk_at "go"
      exact ⟨rfl, rfl⟩
    · walk_at "go"
      rw [show (xs.all fun _ => true) = true by simp]
      walk_at "go"
      exact q
  | tuple xs =>
    show VS K w _ (startE _ [.d (.tuple xs), .d (.tuple xs)]) _ _
    simp only [eqOk, Bool.and_eq_true, decide_eq_true_eq, List.all_eq_true] at ok
    walk_at "go"
    refine w_isi2T (.tup xs) rfl ?_
    walk_at "go"
    refine w_isi2T (.tup xs) rfl ?_
    walk_at "go"
    refine ite_f (not_dec rfl) ?_
    walk_at "go"
    try (refine ite_f rfl ?_)
    walk_at "go"
    refine vco_zs (fun _ => .bool true) it_zT trivial (on_tup (on_cons (by decide) (on_cons (by decide) on_nil))) (by rw [sizeLine_eq]; omega) (fun y hy => ?_) ?_
    · walk_at "go"
      refine ⟨[bw y, bw y], by cases y <;> rfl, y, rfl, rfl, ok.1 y hy, ?_⟩
      walk_at "go"
      exact ⟨rfl, rfl⟩
    · walk_at "go"
      rw [show (xs.all fun _ => true) = true by simp]
      walk_at "go"
      exact q
  | dict xs => cases ok
theorem oc_ok {z : Str} (h : (spl z).length ≤ 10000) : eqOk 3 (oc (.str z)) = true := by
  show eqOk 3 (if okH z = true then .list ((spl z).map .str) else .str "format") = true
  split
  · rename_i ho
    simp only [okH, Bool.and_eq_true, List.all_eq_true] at ho
    refine eqOk_lst ?_ (by rw [List.length_map]; omega)
    rw [List.all_map, List.all_eq_true]
    intro x hx
    exact strOk_w (ho.1 x hx)
  · decide +kernel
theorem res_rD {x : PyData} : (rD x).res = true := by cases x <;> rfl
theorem vg_rd {i : Nat} {e : Ev} {c : Cs} {x : PyData} {P : Ev → Cs → Prop} (q : P (e.set i (some (.d x))) c) : VG K w (gName i) (rD x) e c P := by
  cases x with
  | list xs => exact v_gnameD q
  | _ => exact v_gname rfl q
theorem trs_rd {c : Cs} {x : PyData} : trs c [.d x, rD x] = some [bw x, bw x] := by cases x <;> rfl
theorem trs_dd {c : Cs} {x : PyData} : trs c [.d x, .d x] = some [bw x, bw x] := by cases x <;> rfl
def odds : List PyData := [.none, .int 0, .list [], .list [.str "a"], .tuple [.str "a"], .dict [], .bool true]
def fixed : List Str := (["", " ", "a ", " a", "a  b", "a b", "a ab", "ab a", "a a", "a\n", "\ta", "a,b"] : List Str) ++ [strRep (Str.ofString "ab") (Int.toNat 6), strRep (Str.ofString "ab") (Int.toNat 6) ++ (Str.ofString "a")]
theorem fixed_ok : ∀ z ∈ fixed, TxOk z 20 5 := by
  have h : fixed.all (fun z => decide (z.length ≤ 20) && decide ((tl z).count 32 ≤ 5) && (tl z).all fun c => decide (c < 1114112)) = true := by decide +kernel
  intro z hz
  have := List.all_eq_true.mp h z hz
  simp only [Bool.and_eq_true, decide_eq_true_eq, List.all_eq_true] at this
  exact ⟨this.1.1, this.1.2, this.2⟩
theorem tx_w {w : Str} (h : isW w = true) : TxOk w 12 0 := by
  have l := isW_len h
  have lo := low_of (ws := [w]) (by simpa using h) w (by simp)
  exact ⟨l, Nat.le_of_eq (List.count_eq_zero.mpr fun m => by have := lo 32 m; omega), strChars h⟩
def LL : Nat → Nat
  | 0 => 2700
  | i + 1 => 2 * LL i + 50
def MM : Nat → Nat
  | 0 => 200
  | i + 1 => 2 * MM i + 2
theorem LL_le {i : Nat} (h : i ≤ 3) : LL i ≤ 22000 ∧ MM i ≤ 1700 ∧ (i ≤ 2 → MM i ≤ 1000) := by
  match i, h with
  | 0, _ => exact ⟨by decide, by decide, fun _ => by decide⟩
  | 1, _ => exact ⟨by decide, by decide, fun _ => by decide⟩
  | 2, _ => exact ⟨by decide, by decide, fun _ => by decide⟩
  | 3, _ => exact ⟨by decide, by decide, fun h => by omega⟩
def pool (near : Str) : List Str := ([near, cutS near none (some (-1)), near ++ (Str.ofString "a"), cutS near none (some 1), "a", "z", "A", "a1", "", "-", strRep (Str.ofString "a") (Int.toNat 12), strRep (Str.ofString "a") (Int.toNat 13)] : List Str) ++ (["ab-c", "\n", "aB"] : List Str)
theorem tx_lit : ∀ z ∈ (["a", "z", "A", "a1", "", "-", strRep (Str.ofString "a") (Int.toNat 12), strRep (Str.ofString "a") (Int.toNat 13), "ab-c", "\n", "aB", "abc"] : List Str), TxOk z 20 0 := by
  have h : (["a", "z", "A", "a1", "", "-", strRep (Str.ofString "a") (Int.toNat 12), strRep (Str.ofString "a") (Int.toNat 13), "ab-c", "\n", "aB", "abc"] : List Str).all (fun z => decide (z.length ≤ 20) && decide ((tl z).count 32 ≤ 0) && (tl z).all fun c => decide (c < 1114112)) = true := by decide +kernel
  intro z hz
  have := List.all_eq_true.mp h z hz
  simp only [Bool.and_eq_true, decide_eq_true_eq, List.all_eq_true] at this
  exact ⟨this.1.1, this.1.2, this.2⟩
theorem pool_ok {near : Str} (h : TxOk near 12 0) : ∀ p ∈ pool near, TxOk p 20 0 := by
  intro p hp
  unfold pool at hp
  simp only [List.mem_append, List.mem_cons, List.not_mem_nil, or_false] at hp
  have L := tx_lit
  rcases hp with (rfl | rfl | rfl | rfl | rfl | rfl | rfl | rfl | rfl | rfl | rfl | rfl) | (rfl | rfl | rfl)
  · exact h.mono (by omega) (by omega)
  · exact (tx_cut h _ _).mono (by omega) (by omega)
  · exact (tx_app h (show TxOk (Str.ofString "a") 1 0 from ⟨by decide +kernel, by decide +kernel, by decide +kernel⟩)).mono (by omega) (by omega)
  · exact (tx_cut h _ _).mono (by omega) (by omega)
  all_goals exact L _ (by simp)
def sp__law_holds : SpV := fun us c Q => ∃ (pl : List PyData) (m : Int), us = [.c 0, .d (.int m)] ∧ c = [.l pl] ∧ Pb pl 0 ∧ 1 ≤ m ∧ m ≤ 120 ∧ ∀ pl', Q (.d (.bool true)) [.l pl']
theorem ok__law_holds (n : Nm mg) (c__law_damaged : GF P w K mg base 2 "_law_damaged" (liftC K w sp__law_damaged)) (c__law_draw : GF P w K mg base 1 "_law_draw" (liftC K w sp__law_draw)) (c__law_equal : GC P w K mg base 3 "_law_equal" (lift K w (sp__law_equal 3))) (c__law_outcome : GC P w K mg base 6 "_law_outcome" (lift K w sp__law_outcome)) (c__law_parsed : GF P w K mg base 3 "_law_parsed" (lift K w sp__law_parsed)) (c__law_uses : GF P w K mg base 2 "_law_uses" (liftC K w sp__law_uses)) (c__law_words : GF P w K mg base 3 "_law_words" (liftC K w sp__law_words)) {f : Addr} {fd : FuncData} (F : Fun K "_law_holds" "_law_holds" s__law_holds f fd) :
    GFn P w K mg base CX0 7 f fd ["source", "most"] (liftC K w sp__law_holds) := by
  have n_len := n.len_
  have n_range := n.range_
  refine GFn.v F sc__law_holds (fun us c Q h => ?_) (fun cdv A outer s H E us c Q gd hr h => ?_)
  · obtain ⟨pl, ns, rfl, _⟩ := h; rfl
  obtain ⟨pl, m, rfl, rfl, hp, m0, m1, q⟩ := h
  refine ⟨_, (pss_cons (ps_set (i := 2) sc__law_holds.nd rfl (.inl rfl) (pe_fc c__law_words hr (by decide) (by rfl) (pa_cons (pv 0) (pa_cons (pv 1) pa_nil))))
      (pss_cons (ps_set (i := 3) sc__law_holds.nd rfl (.inl rfl) (kpe_join (K := K) rfl pe_str (pe_fc c__law_uses hr (by decide) (by rfl) (pa_cons (pv 0) (pa_cons (pv 2) (pa_cons pe_int pa_nil))))))
      (pss_cons (ps_for PassesOwn.never rfl (pi_range1 (by rfl) n_range (pa_cons (pe_fc c__law_draw hr (by decide) (by rfl) (pa_cons (pv 0) (pa_cons pe_int pa_nil))) pa_nil)) (pg_name (i := 4) sc__law_holds.nd rfl (.inl rfl))
      (pss_cons (ps_set (i := 5) sc__law_holds.nd rfl (.inl rfl) (pe_ix (kix_seq (K := K) rfl) (pe_op (kou_add (K := K) rfl) (pv 2) (pe_lst (pa_cons pe_str pa_nil))) (pe_fc c__law_draw hr (by decide) (by rfl) (pa_cons (pv 0) (pa_cons (pe_op (kou_add (K := K) rfl) (pe_callB (kcu_len (K := K) rfl) (by rfl) n_len (by decide +kernel) (pa_cons (pv 2) pa_nil)) pe_int) pa_nil))) (fun _ _ => rfl)))
        (pss_cons (ps_set (i := 6) sc__law_holds.nd rfl (.inl rfl) (pe_lst (pa_cons (pv 5) (pa_cons (pe_slice (ksl_u (K := K) rfl) (pv 5) po_none (po_some (pe_un un_neg pe_int))) (pa_cons (pe_op (kou_add (K := K) rfl) (pv 5) pe_str) (pa_cons (pe_slice (ksl_u (K := K) rfl) (pv 5) po_none (po_some pe_int)) (pa_cons pe_str (pa_cons pe_str (pa_cons pe_str (pa_cons pe_str (pa_cons pe_str (pa_cons pe_str (pa_cons (pe_op ou_mul pe_str pe_int) (pa_cons (pe_op ou_mul pe_str pe_int) pa_nil))))))))))))))
        (pss_cons (ps_set (i := 6) sc__law_holds.nd rfl (.inl rfl) (pe_op (kou_add (K := K) rfl) (pv 6) (pe_lst (pa_cons pe_str (pa_cons pe_str (pa_cons pe_str pa_nil))))))
        (pss_one (ps_set (i := 3) sc__law_holds.nd rfl (.inl rfl) (pe_fc c__law_damaged hr (by decide) (by rfl) (pa_cons (pv 0) (pa_cons (pv 3) (pa_cons (pv 6) (pa_cons pe_str pa_nil)))))))))))
      (pss_cons (ps_set (i := 7) sc__law_holds.nd rfl (.inl rfl) (pe_fc c__law_parsed hr (by decide) (by rfl) (pa_cons (pv 3) pa_nil)))
      (pss_cons (ps_if (PW.pt (pw_and (pt_cmpR ou_le (pe_callB (kcu_len (K := K) rfl) (by rfl) n_len (by decide +kernel) (pa_cons (pv 3) pa_nil)) pe_int (nomark _)) (pw_and1 (pt_not (kpt_u (K := K) rfl (pe_gc c__law_equal gd hr (by decide) (by rfl) (pa_cons (pe_gc c__law_outcome gd hr (by decide) (by rfl) (pa_cons (pv 3) pa_nil)) (pa_cons (pv 7) pa_nil))) (by intro _; rfl))))))
      (pss_one (ps_ret pe_bl))
      pss_nil)
      (pss_cons (ps_set (i := 8) sc__law_holds.nd rfl (.inl rfl) (pe_lst (pa_cons pe_str (pa_cons pe_str (pa_cons pe_str (pa_cons pe_str (pa_cons pe_str (pa_cons pe_str (pa_cons pe_str (pa_cons pe_str (pa_cons pe_str (pa_cons pe_str (pa_cons pe_str (pa_cons pe_str pa_nil))))))))))))))
      (pss_cons (ps_for PassesOwn.never rfl (kpi_u (K := K) rfl (pe_op (kou_add (K := K) rfl) (pv 8) (pe_lst (pa_cons (pe_op ou_mul pe_str pe_int) (pa_cons (pe_op (kou_add (K := K) rfl) (pe_op ou_mul pe_str pe_int) pe_str) pa_nil))))) (pg_name (i := 9) sc__law_holds.nd rfl (.inl rfl))
      (pss_one (ps_if (pt_not (kpt_u (K := K) rfl (pe_gc c__law_equal gd hr (by decide) (by rfl) (pa_cons (pe_gc c__law_outcome gd hr (by decide) (by rfl) (pa_cons (pv 9) pa_nil)) (pa_cons (pe_fc c__law_parsed hr (by decide) (by rfl) (pa_cons (pv 9) pa_nil)) pa_nil))) (by intro _; rfl)))
      (pss_one (ps_ret pe_bl))
      pss_nil)))
      (pss_cons (ps_set (i := 10) sc__law_holds.nd rfl (.inl rfl) (pe_ix (kix_seq (K := K) rfl) (pe_lst (pa_cons pe_non (pa_cons pe_int (pa_cons (pe_lst pa_nil) (pa_cons (pe_lst (pa_cons pe_str pa_nil)) (pa_cons (pe_tup (pa_cons pe_str pa_nil)) (pa_cons (PE.as_dd pe_dnewK) (pa_cons pe_bl pa_nil)))))))) (pe_fc c__law_draw hr (by decide) (by rfl) (pa_cons (pv 0) (pa_cons pe_int pa_nil))) (fun _ _ => rfl)))
      (pss_one (ps_ret (pe_cmpR (kou_eq (K := K) rfl hr.units) (pe_gc c__law_outcome gd hr (by decide) (by rfl) (pa_cons (pv 10) pa_nil)) pe_str (nomark _)))))))))))), ?_⟩
  walk_at "go"
  refine ⟨pl, 0, m, rfl, rfl, hp, by decide, m0, m1, fun ws p1 B hp1 => ?_⟩
  have gb := B.gb
  have wl := B.len
  walk_at "go"
  refine ⟨p1, _, ws, rfl, rfl, hp1, by decide, wl, gb.ok, fun vs p2 hv vl hp2 => ?_⟩
  have v12 : ∀ v ∈ vs, v.length ≤ 12 := fun v h => isW_len (gb.ok v (hv v h))
  have ls := len_sum v12
  walk_at "go"
  refine w_join .o (by rw [show (Str.ofString " ").length = 1 by decide +kernel]; omega) ?_
  have jok : TxOk (Txt.join " " vs) 2700 200 := by
    have : PsOk vs 2700 200 := ⟨by rw [← U_eq]; omega, by omega, fun w hw => ⟨List.count_eq_zero.mp (by have := (tx_w (gb.ok w (hv w hw))).cnt; omega), (tx_w (gb.ok w (hv w hw))).ch⟩⟩
    exact this.join
  rw [show Txt.join (Str.ofString " ") vs = Txt.join " " vs from rfl]
  generalize Txt.join " " vs = z0 at *
  walk_at "go"
  refine ⟨p2, _, 4, rfl, rfl, hp2, by decide, by decide, by decide, fun d4 p3 hp3 d40 d41 => ?_⟩
  walk_at "go"
  refine vforA (it_1 (by omega) (by omega)) (fun i e c => ∃ (y4 y5 y6 y7 y8 y9 y10 : Option W) (z : Str) (pl : List PyData), e = [some (.c 0), some (.d (.int m)), some (.d (.list (ws.map .str))), some (.d (.str z)), y4, y5, y6, y7, y8, y9, y10] ∧ c = [.l pl] ∧ TxOk z (LL i) (MM i) ∧ Pb pl (10000 + 20 * i)) ⟨_, _, _, _, _, _, _, z0, p3, rfl, rfl, jok, hp3.mono (by omega)⟩ (fun _ _ _ _ => trivial) ?_ ?_
  · clear jok hp hp1 hp2 hp3
    rintro i d e' c' hi hd ⟨y4, y5, y6, y7, y8, y9, y10, z, pl, rfl, rfl, ok, hp⟩
    have hi2 : i ≤ 2 := by omega
    obtain ⟨b1, b2, b3⟩ := LL_le (show i ≤ 3 by omega)
    have hwl : (ws.map PyData.str).length + 1 ≤ sizeLine := by rw [List.length_map, sizeLine_eq]; omega
    walk_at "go"
    refine ⟨pl, _, _, rfl, rfl, hp, by omega, by rw [List.length_map]; omega, log_small (by rw [List.length_map]; omega), fun d5 p5 hp5 d50 d51 => ?_⟩
    walk_at "go"
    obtain ⟨v, ev, mv⟩ := atI_lt (xs := ws.map PyData.str ++ [.str "abc"]) d50 (by rw [List.length_append]; exact d51)
    obtain ⟨near, rfl, nok⟩ : ∃ near, v = .str near ∧ TxOk near 12 0 := by
      rcases List.mem_append.mp mv with h | h
      · obtain ⟨x, hx, rfl⟩ := List.mem_map.mp h
        exact ⟨x, rfl, tx_w (gb.ok x hx)⟩
      · rw [List.mem_singleton.mp h]
        exact ⟨"abc", rfl, ⟨by decide +kernel, by decide +kernel, by decide +kernel⟩⟩
    refine w_ixL .o ev ?_
    have nl := nok.len
    have hn1 : near.length ≤ sizeLine := by rw [sizeLine_eq]; omega
    have hn2 : near.length + (Str.ofString "a").length ≤ sizeLine := by rw [sizeLine_eq]; show _ + 1 ≤ _; omega
    walk_at "go"
    refine ⟨p5, _, z, pool near, LL i, MM i, rfl, rfl, hp5, by omega, ok, by omega, b3 hi2, by show 0 < 15; decide, by show 15 ≤ 100; decide, pool_ok nok, fun z' p6 ok6 hp6 => ?_⟩
    walk_at "go"
    exact ⟨_, _, _, _, _, _, _, z', p6, rfl, rfl, ok6, hp6.mono (by omega)⟩
  · clear jok hp hp1 hp2 hp3
    rintro e' c' ⟨y4, y5, y6, y7, y8, y9, y10, z, pl, rfl, rfl, ok, hp⟩
    obtain ⟨b1, b2, _⟩ := LL_le (show d4.toNat ≤ 3 by omega)
    have zok : TxOk z 22000 1700 := ok.mono b1 b2
    have zl := zok.len
    have hz2 : z.length ≤ sizeLine := by rw [sizeLine_eq]; omega
    clear ok
    walk_at "go"
    refine ⟨z, rfl, rfl, zok.mono (by omega) (by omega), ?_⟩
    refine ⟨res_rD, ?_⟩
    refine vg_rd ?_
    walk_at "go"
    refine ite_no (fun c => ?_) ?_
    · have zl4 : z.length ≤ 4000 := by simp at c; omega
      have so : SplOk z := (show TxOk z 4000 1700 from ⟨zl4, zok.cnt, zok.ch⟩).spl (by omega) (by omega)
      walk_at "go"
      refine ⟨.str z, rfl, rfl, fun z' e => by cases e; exact ⟨by omega, so⟩, ?_⟩
      walk_at "go"
      refine ⟨_, trs_dd, oc (.str z), rfl, rfl, oc_ok so.len, ?_⟩
      walk_at "go"
      exact ⟨rfl, rfl⟩
    · walk_at "go"
      refine vfor (it_l (xs := fixed.map .str) .o) (fun i e c => ∃ (y4 y5 y6 y8 y9 y10 : Option W), e = [some (.c 0), some (.d (.int m)), some (.d (.list (ws.map .str))), some (.d (.str z)), y4, y5, y6, some (.d (oc (.str z))), y8, y9, y10] ∧ c = [.l pl]) ⟨_, _, _, _, _, _, rfl, rfl⟩ (fun _ _ _ _ => .o) ?_ ?_
      · clear y4 y5 y6 y8 y9 y10
        rintro i d e' c' hi hd ⟨y4, y5, y6, y8, y9, y10, rfl, rfl⟩
        obtain ⟨f, ef, rfl⟩ := map_at hd
        have fok := fixed_ok f (List.mem_of_getElem? ef)
        have fl := fok.len
        have so : SplOk f := fok.spl (by omega) (by omega)
        generalize oc (.str z) = zz
        walk_at "go"
        refine ⟨.str f, rfl, rfl, fun z' e => by cases e; exact ⟨by omega, so⟩, ?_⟩
        walk_at "go"
        refine ⟨f, rfl, rfl, fok.mono (by omega) (by omega), ?_⟩
        refine ⟨res_rD, ?_⟩
        walk_at "go"
        refine ⟨_, trs_rd, oc (.str f), rfl, rfl, oc_ok so.len, ?_⟩
        walk_at "go"
        exact ⟨_, _, _, _, _, _, rfl, rfl⟩
      · clear y4 y5 y6 y8 y9 y10
        rintro e' c' ⟨y4, y5, y6, y8, y9, y10, rfl, rfl⟩
        generalize oc (.str z) = zz
        walk_at "go"
        refine ⟨pl, _, 7, rfl, rfl, hp, by omega, by decide, by decide, fun d5 p5 hp5 d50 d51 => ?_⟩
        walk_at "go"
        obtain ⟨v, ev, mv⟩ := atI_lt (xs := odds) d50 d51
        refine w_ixL .o ev ?_
        have vo : oc v = .str "format" ∧ ∀ z, v ≠ .str z := by
          simp only [odds, List.mem_cons, List.not_mem_nil, or_false] at mv
          rcases mv with rfl | rfl | rfl | rfl | rfl | rfl | rfl <;> exact ⟨rfl, fun z h => by cases h⟩
        walk_at "go"
        refine ⟨[bw v], by cases v <;> rfl, v, rfl, rfl, fun z e => (vo.2 z e).elim, ?_⟩
        rw [vo.1]
        walk_at "go"
        exact q _
theorem ok_law (n : Nm mg) (c__law_holds : GC P w K mg base 7 "_law_holds" (liftC K w sp__law_holds)) (c__law_source : GF P w K mg base 1 "_law_source" (lift K w sp__law_source)) {f : Addr} {fd : FuncData} (F : Fun K "law" "law" s_law f fd) :
    GFn P w K mg base CX0 8 f fd ["script"] (lift K w lawV) := by
  have n_enumerate := n.enumerate_
  have n_len := n.len_
  have n_max := n.max_
  have n_min := n.min_
  refine GFn.v F sc_law (fun us c Q h => ?_) (fun cdv A outer s H E us c Q gd hr h => ?_)
  · obtain ⟨ns, rfl, _⟩ := h; rfl
  obtain ⟨ns, rfl, rfl, hl, _, q⟩ := h
  refine ⟨_, (pss_cons (ps_for PassesOwn.never rfl (kpi_enum (K := K) rfl (by rfl) n_enumerate (pa_cons (pe_slice (ksl_u (K := K) rfl) (pe_op (kou_add (K := K) rfl) (pv 0) (pe_lst (pa_cons pe_int pa_nil))) po_none (po_some (pe_callB (call_max2 rfl) (by rfl) n_max (by decide +kernel) (pa_cons pe_int (pa_cons (pe_callB (call_min2 rfl) (by rfl) n_min (by decide +kernel) (pa_cons (pe_callB (kcu_len (K := K) rfl) (by rfl) n_len (by decide +kernel) (pa_cons (pv 0) pa_nil)) (pa_cons pe_int pa_nil))) pa_nil))))) pa_nil)) (kpg_tup (K := K) (n := 2) rfl rfl (pgs_cons (pg_name (i := 1) sc_law.nd rfl (.inl rfl)) (pgs_cons (pg_name (i := 2) sc_law.nd rfl (.inl rfl)) pgs_nil)))
      (pss_one (ps_if (pt_not (kpt_u (K := K) rfl (pe_gc c__law_holds gd hr (by decide) (by rfl) (pa_cons (pe_fc c__law_source hr (by decide) (by rfl) (pa_cons (pv 2) (pa_cons (pv 1) pa_nil))) (pa_cons (pe_ifExp (pt_cmpR (kou_eq (K := K) rfl hr.units) (pv 0) (pe_lst pa_nil) (nomark _)) pe_int pe_int) pa_nil))) (by intro _; rfl)))
      (pss_one (ps_ret pe_bl))
      pss_nil)))
      (pss_one (ps_ret pe_bl))), ?_⟩
  walk_at "go"
  rw [cutD_to _ (by split <;> (try split) <;> omega)]
  rw [show List.map PyData.int ns ++ (fun ds => PyData.int 0 :: ds) [] = (ns ++ [0]).map PyData.int by rw [List.map_append]; rfl]
  rw [← List.map_take]
  generalize hT : Int.toNat (if (if 24 < ((List.map PyData.int ns).length : Int) then 24 else ((List.map PyData.int ns).length : Int)) > 1 then (if 24 < ((List.map PyData.int ns).length : Int) then 24 else ((List.map PyData.int ns).length : Int)) else 1) = T
  have hM : ((ns ++ [0]).take T).length ≤ 64 := by rw [List.length_take, List.length_append]; simp only [List.length_cons, List.length_nil]; omega
  generalize (ns ++ [0]).take T = M at *
  refine vforA (it_e .o) (fun i e c => ∃ y1 y2, e = [some (.s (ns.map .int)), y1, y2] ∧ c = []) ⟨_, _, rfl, rfl⟩ (fun _ _ _ _ => .o) ?_ ?_
  · rintro i d e' c' hi ⟨z, hz, rfl⟩ ⟨y1, y2, rfl, rfl⟩
    obtain ⟨v, ev, rfl⟩ := map_at hz
    rw [List.length_map] at hi
    walk_at "go"
    refine ⟨v, i, rfl, rfl, by omega, fun pl hp => ?_⟩
    walk_at "go"
    refine w_eq0 .s (shaped_ints ns) ?_
    walk_at "go"
    refine ite_joinQ (fun u c => ∃ m : Int, u = .d (.int m) ∧ 1 ≤ m ∧ m ≤ 120 ∧ c = []) (fun c => ?_) (fun c => ?_) ?_
    · walk_at "go"
      exact ⟨by decide, by decide, rfl⟩
    · walk_at "go"
      exact ⟨by decide, by decide, rfl⟩
    rintro u c1 ⟨m, rfl, m0, m1, rfl⟩
    walk_at "go"
    refine ⟨pl, m, rfl, rfl, hp, m0, m1, fun pl' => ?_⟩
    walk_at "go"
    exact ⟨_, _, rfl, rfl⟩
  · rintro e' c' ⟨y1, y2, rfl, rfl⟩
    walk_at "go"
    exact q
end
end My
open PySem PySem.Spec PyProof.Rows L2 Gd
namespace My
theorem all_mk {l : PySem.W.OpenLaw} {w : World} {K : PySem.W.Frag} {h : Heap} {mg : Str → Option Value} {fa f0 f1 f2 f3 f4 f5 f6 f7 f8 f9 f10 f11 f12 f13 f14 f15 f16 f17 f18 f19 f20 f21 f22 : Addr} (X : K.In h) (G : h.Ns mainGlobals mg) (hfa : mg "law" = some (.ref fa))
    {od0 an0 od1 an1 od2 an2 od3 an3 od4 an4 od5 an5 od6 an6 od7 an7 od8 an8 od9 an9 od10 an10 od11 an11 od12 an12 od13 an13 od14 an14 od15 an15 od16 an16 od17 an17 od18 an18 od19 an19 od20 an20 od21 an21 od22 an22 : Option Addr} {sl0 sl1 sl2 sl3 sl4 sl5 sl6 sl7 sl8 sl9 sl10 sl11 sl12 sl13 sl14 sl15 sl16 sl17 sl18 sl19 sl20 sl21 sl22 : Array (Option Value)}
    {oc0 kV0 dc0 pm0 cd0 ct0 oc1 kV1 dc1 pm1 cd1 ct1 oc2 kV2 dc2 pm2 cd2 ct2 oc3 kV3 dc3 pm3 cd3 ct3 oc4 kV4 dc4 pm4 cd4 ct4 oc5 kV5 dc5 pm5 cd5 ct5 oc6 kV6 dc6 pm6 cd6 ct6 oc7 kV7 dc7 pm7 cd7 ct7 oc8 kV8 dc8 pm8 cd8 ct8 oc9 kV9 dc9 pm9 cd9 ct9 oc10 kV10 dc10 pm10 cd10 ct10 oc11 kV11 dc11 pm11 cd11 ct11 oc12 kV12 dc12 pm12 cd12 ct12 oc13 kV13 dc13 pm13 cd13 ct13 oc14 kV14 dc14 pm14 cd14 ct14 oc15 kV15 dc15 pm15 cd15 ct15 oc16 kV16 dc16 pm16 cd16 ct16 oc17 kV17 dc17 pm17 cd17 ct17 oc18 kV18 dc18 pm18 cd18 ct18 oc19 kV19 dc19 pm19 cd19 ct19 oc20 kV20 dc20 pm20 cd20 ct20 oc21 kV21 dc21 pm21 cd21 ct21 oc22 kV22 dc22 pm22 cd22 ct22 : Value} {t_LETTERS t_MOST_LETTERS : Tok}
    {C_DifferentWordsError : Addr} (aX_DifferentWordsError : PySem.W.nsIn K mainGlobals "DifferentWordsError" = some (some (.ref C_DifferentWordsError)))
    {C_EmptyHistoryError : Addr} (aX_EmptyHistoryError : PySem.W.nsIn K mainGlobals "EmptyHistoryError" = some (some (.ref C_EmptyHistoryError)))
    {C_FullError : Addr} (aX_FullError : PySem.W.nsIn K mainGlobals "FullError" = some (some (.ref C_FullError)))
    {C_GhosttextError : Addr} (aX_GhosttextError : PySem.W.nsIn K mainGlobals "GhosttextError" = some (some (.ref C_GhosttextError)))
    {C_ImpossibleKeysError : Addr} (aX_ImpossibleKeysError : PySem.W.nsIn K mainGlobals "ImpossibleKeysError" = some (some (.ref C_ImpossibleKeysError)))
    {C_InvalidBookError : Addr} (aX_InvalidBookError : PySem.W.nsIn K mainGlobals "InvalidBookError" = some (some (.ref C_InvalidBookError)))
    {C_InvalidFormatError : Addr} (aX_InvalidFormatError : PySem.W.nsIn K mainGlobals "InvalidFormatError" = some (some (.ref C_InvalidFormatError)))
    {C_InvalidHistoryError : Addr} (aX_InvalidHistoryError : PySem.W.nsIn K mainGlobals "InvalidHistoryError" = some (some (.ref C_InvalidHistoryError)))
    {C_InvalidKeysError : Addr} (aX_InvalidKeysError : PySem.W.nsIn K mainGlobals "InvalidKeysError" = some (some (.ref C_InvalidKeysError)))
    {C_InvalidNumberError : Addr} (aX_InvalidNumberError : PySem.W.nsIn K mainGlobals "InvalidNumberError" = some (some (.ref C_InvalidNumberError)))
    {C_InvalidStateError : Addr} (aX_InvalidStateError : PySem.W.nsIn K mainGlobals "InvalidStateError" = some (some (.ref C_InvalidStateError)))
    {C_InvalidTextError : Addr} (aX_InvalidTextError : PySem.W.nsIn K mainGlobals "InvalidTextError" = some (some (.ref C_InvalidTextError)))
    {C_InvalidWordError : Addr} (aX_InvalidWordError : PySem.W.nsIn K mainGlobals "InvalidWordError" = some (some (.ref C_InvalidWordError)))
    {C_NothingTypedError : Addr} (aX_NothingTypedError : PySem.W.nsIn K mainGlobals "NothingTypedError" = some (some (.ref C_NothingTypedError)))
    {C_PrefixError : Addr} (aX_PrefixError : PySem.W.nsIn K mainGlobals "PrefixError" = some (some (.ref C_PrefixError)))
    {C_TooLongError : Addr} (aX_TooLongError : PySem.W.nsIn K mainGlobals "TooLongError" = some (some (.ref C_TooLongError)))
    {C_UnknownWordError : Addr} (aX_UnknownWordError : PySem.W.nsIn K mainGlobals "UnknownWordError" = some (some (.ref C_UnknownWordError)))
    (xg1 : PySem.W.specialIn K (.builtin "object.__class__") "__get__" = some (some (.builtin "getset_descriptor.__get__"))) (xg2 : PySem.W.takesIn K (.builtin "object.__class__") = some true)
    (xe_InvalidFormatError : PySem.W.excIn K C_InvalidFormatError [.type "ValueError", .type "Exception", .type "BaseException", .type "object"] "ValueError.__new__" = true)
    (xk_InvalidFormatError : PySem.W.keepIn K (.ref C_InvalidFormatError) = true)
    (xs_InvalidFormatError : PySem.W.subIn K (.ref C_InvalidFormatError) (.type "BaseException") = some true)
    (xt_InvalidFormatError : PySem.W.typeIn K (.ref C_InvalidFormatError) = some (.type "type"))
    (xa_InvalidFormatError : PySem.W.findIn K (.ref C_InvalidFormatError) "__getattribute__" = some (some (.builtin "BaseException.__getattribute__")))
    (xb_InvalidFormatError : PySem.W.findIn K (.ref C_InvalidFormatError) "__getattr__" = some none)
    (xd_InvalidFormatError : PySem.W.hasDictIn K C_InvalidFormatError = true)
    (xo_InvalidFormatError : PySem.W.findIn K (.ref C_InvalidFormatError) "__class__" = some (some (.builtin "object.__class__")))
    (xm_InvalidFormatError : PySem.W.mroIn K C_InvalidFormatError (.type "object") = some true)
    (xv_InvalidFormatError : PySem.W.kitOne K (.ref C_InvalidFormatError) (.type "ValueError") = some true)
    (xh_InvalidFormatError_GhosttextError : PySem.W.exmOne K (.ref C_InvalidFormatError) (.ref C_GhosttextError) = some true)
    (xi_InvalidFormatError_DifferentWordsError : PySem.W.kitOne K (.ref C_InvalidFormatError) (.ref C_DifferentWordsError) = some false)
    (xi_InvalidFormatError_EmptyHistoryError : PySem.W.kitOne K (.ref C_InvalidFormatError) (.ref C_EmptyHistoryError) = some false)
    (xi_InvalidFormatError_FullError : PySem.W.kitOne K (.ref C_InvalidFormatError) (.ref C_FullError) = some false)
    (xi_InvalidFormatError_GhosttextError : PySem.W.kitOne K (.ref C_InvalidFormatError) (.ref C_GhosttextError) = some true)
    (xi_InvalidFormatError_ImpossibleKeysError : PySem.W.kitOne K (.ref C_InvalidFormatError) (.ref C_ImpossibleKeysError) = some false)
    (xi_InvalidFormatError_InvalidBookError : PySem.W.kitOne K (.ref C_InvalidFormatError) (.ref C_InvalidBookError) = some false)
    (xi_InvalidFormatError_InvalidFormatError : PySem.W.kitOne K (.ref C_InvalidFormatError) (.ref C_InvalidFormatError) = some true)
    (xi_InvalidFormatError_InvalidHistoryError : PySem.W.kitOne K (.ref C_InvalidFormatError) (.ref C_InvalidHistoryError) = some false)
    (xi_InvalidFormatError_InvalidKeysError : PySem.W.kitOne K (.ref C_InvalidFormatError) (.ref C_InvalidKeysError) = some false)
    (xi_InvalidFormatError_InvalidNumberError : PySem.W.kitOne K (.ref C_InvalidFormatError) (.ref C_InvalidNumberError) = some false)
    (xi_InvalidFormatError_InvalidStateError : PySem.W.kitOne K (.ref C_InvalidFormatError) (.ref C_InvalidStateError) = some false)
    (xi_InvalidFormatError_InvalidTextError : PySem.W.kitOne K (.ref C_InvalidFormatError) (.ref C_InvalidTextError) = some false)
    (xi_InvalidFormatError_InvalidWordError : PySem.W.kitOne K (.ref C_InvalidFormatError) (.ref C_InvalidWordError) = some false)
    (xi_InvalidFormatError_NothingTypedError : PySem.W.kitOne K (.ref C_InvalidFormatError) (.ref C_NothingTypedError) = some false)
    (xi_InvalidFormatError_PrefixError : PySem.W.kitOne K (.ref C_InvalidFormatError) (.ref C_PrefixError) = some false)
    (xi_InvalidFormatError_TooLongError : PySem.W.kitOne K (.ref C_InvalidFormatError) (.ref C_TooLongError) = some false)
    (xi_InvalidFormatError_UnknownWordError : PySem.W.kitOne K (.ref C_InvalidFormatError) (.ref C_UnknownWordError) = some false)
    (a0 : PySem.W.nsIn K mainGlobals "_law_draw" = some (some (.ref f0)))
    (l0 : K.lookup f0 = some ⟨oc0, od0, .func (PySem.W.fnOf "_law_draw" "_law_draw" (defArgs s__law_draw) (defBody s__law_draw) (defScope s__law_draw) .none kV0 dc0 pm0 an0 cd0 ct0), sl0⟩)
    (c0 : PySem.W.codeIn K cd0 "_law_draw" = true) (k0 : PySem.W.keepIn K (.ref f0) = true)
    (a1 : PySem.W.nsIn K mainGlobals "_law_damaged" = some (some (.ref f1)))
    (l1 : K.lookup f1 = some ⟨oc1, od1, .func (PySem.W.fnOf "_law_damaged" "_law_damaged" (defArgs s__law_damaged) (defBody s__law_damaged) (defScope s__law_damaged) .none kV1 dc1 pm1 an1 cd1 ct1), sl1⟩)
    (c1 : PySem.W.codeIn K cd1 "_law_damaged" = true) (k1 : PySem.W.keepIn K (.ref f1) = true)
    (a2 : PySem.W.nsIn K mainGlobals "_law_equal" = some (some (.ref f2)))
    (l2 : K.lookup f2 = some ⟨oc2, od2, .func (PySem.W.fnOf "_law_equal" "_law_equal" (defArgs s__law_equal) (defBody s__law_equal) (defScope s__law_equal) .none kV2 dc2 pm2 an2 cd2 ct2), sl2⟩)
    (c2 : PySem.W.codeIn K cd2 "_law_equal" = true) (k2 : PySem.W.keepIn K (.ref f2) = true)
    (a3 : PySem.W.nsIn K mainGlobals "_law_name_of" = some (some (.ref f3)))
    (l3 : K.lookup f3 = some ⟨oc3, od3, .func (PySem.W.fnOf "_law_name_of" "_law_name_of" (defArgs s__law_name_of) (defBody s__law_name_of) (defScope s__law_name_of) .none kV3 dc3 pm3 an3 cd3 ct3), sl3⟩)
    (c3 : PySem.W.codeIn K cd3 "_law_name_of" = true) (k3 : PySem.W.keepIn K (.ref f3) = true)
    (a4 : PySem.W.nsIn K mainGlobals "_split" = some (some (.ref f4)))
    (l4 : K.lookup f4 = some ⟨oc4, od4, .func (PySem.W.fnOf "_split" "_split" (defArgs s__split) (defBody s__split) (defScope s__split) .none kV4 dc4 pm4 an4 cd4 ct4), sl4⟩)
    (c4 : PySem.W.codeIn K cd4 "_split" = true) (k4 : PySem.W.keepIn K (.ref f4) = true)
    (a5 : PySem.W.nsIn K mainGlobals "is_text" = some (some (.ref f5)))
    (l5 : K.lookup f5 = some ⟨oc5, od5, .func (PySem.W.fnOf "is_text" "is_text" (defArgs s_is_text) (defBody s_is_text) (defScope s_is_text) .none kV5 dc5 pm5 an5 cd5 ct5), sl5⟩)
    (c5 : PySem.W.codeIn K cd5 "is_text" = true) (k5 : PySem.W.keepIn K (.ref f5) = true)
    (a6 : PySem.W.nsIn K mainGlobals "is_word" = some (some (.ref f6)))
    (l6 : K.lookup f6 = some ⟨oc6, od6, .func (PySem.W.fnOf "is_word" "is_word" (defArgs s_is_word) (defBody s_is_word) (defScope s_is_word) .none kV6 dc6 pm6 an6 cd6 ct6), sl6⟩)
    (c6 : PySem.W.codeIn K cd6 "is_word" = true) (k6 : PySem.W.keepIn K (.ref f6) = true)
    (a7 : PySem.W.nsIn K mainGlobals "_is_word_list" = some (some (.ref f7)))
    (l7 : K.lookup f7 = some ⟨oc7, od7, .func (PySem.W.fnOf "_is_word_list" "_is_word_list" (defArgs s__is_word_list) (defBody s__is_word_list) (defScope s__is_word_list) .none kV7 dc7 pm7 an7 cd7 ct7), sl7⟩)
    (c7 : PySem.W.codeIn K cd7 "_is_word_list" = true) (k7 : PySem.W.keepIn K (.ref f7) = true)
    (a8 : PySem.W.nsIn K mainGlobals "_least_clash" = some (some (.ref f8)))
    (l8 : K.lookup f8 = some ⟨oc8, od8, .func (PySem.W.fnOf "_least_clash" "_least_clash" (defArgs s__least_clash) (defBody s__least_clash) (defScope s__least_clash) .none kV8 dc8 pm8 an8 cd8 ct8), sl8⟩)
    (c8 : PySem.W.codeIn K cd8 "_least_clash" = true) (k8 : PySem.W.keepIn K (.ref f8) = true)
    (a9 : PySem.W.nsIn K mainGlobals "is_history" = some (some (.ref f9)))
    (l9 : K.lookup f9 = some ⟨oc9, od9, .func (PySem.W.fnOf "is_history" "is_history" (defArgs s_is_history) (defBody s_is_history) (defScope s_is_history) .none kV9 dc9 pm9 an9 cd9 ct9), sl9⟩)
    (c9 : PySem.W.codeIn K cd9 "is_history" = true) (k9 : PySem.W.keepIn K (.ref f9) = true)
    (a10 : PySem.W.nsIn K mainGlobals "parse_words" = some (some (.ref f10)))
    (l10 : K.lookup f10 = some ⟨oc10, od10, .func (PySem.W.fnOf "parse_words" "parse_words" (defArgs s_parse_words) (defBody s_parse_words) (defScope s_parse_words) .none kV10 dc10 pm10 an10 cd10 ct10), sl10⟩)
    (c10 : PySem.W.codeIn K cd10 "parse_words" = true) (k10 : PySem.W.keepIn K (.ref f10) = true)
    (a11 : PySem.W.nsIn K mainGlobals "_law_outcome" = some (some (.ref f11)))
    (l11 : K.lookup f11 = some ⟨oc11, od11, .func (PySem.W.fnOf "_law_outcome" "_law_outcome" (defArgs s__law_outcome) (defBody s__law_outcome) (defScope s__law_outcome) .none kV11 dc11 pm11 an11 cd11 ct11), sl11⟩)
    (c11 : PySem.W.codeIn K cd11 "_law_outcome" = true) (k11 : PySem.W.keepIn K (.ref f11) = true)
    (a12 : PySem.W.nsIn K mainGlobals "_law_is_word" = some (some (.ref f12)))
    (l12 : K.lookup f12 = some ⟨oc12, od12, .func (PySem.W.fnOf "_law_is_word" "_law_is_word" (defArgs s__law_is_word) (defBody s__law_is_word) (defScope s__law_is_word) .none kV12 dc12 pm12 an12 cd12 ct12), sl12⟩)
    (c12 : PySem.W.codeIn K cd12 "_law_is_word" = true) (k12 : PySem.W.keepIn K (.ref f12) = true)
    (a13 : PySem.W.nsIn K mainGlobals "_law_pairs" = some (some (.ref f13)))
    (l13 : K.lookup f13 = some ⟨oc13, od13, .func (PySem.W.fnOf "_law_pairs" "_law_pairs" (defArgs s__law_pairs) (defBody s__law_pairs) (defScope s__law_pairs) .none kV13 dc13 pm13 an13 cd13 ct13), sl13⟩)
    (c13 : PySem.W.codeIn K cd13 "_law_pairs" = true) (k13 : PySem.W.keepIn K (.ref f13) = true)
    (a14 : PySem.W.nsIn K mainGlobals "_law_is_uses" = some (some (.ref f14)))
    (l14 : K.lookup f14 = some ⟨oc14, od14, .func (PySem.W.fnOf "_law_is_uses" "_law_is_uses" (defArgs s__law_is_uses) (defBody s__law_is_uses) (defScope s__law_is_uses) .none kV14 dc14 pm14 an14 cd14 ct14), sl14⟩)
    (c14 : PySem.W.codeIn K cd14 "_law_is_uses" = true) (k14 : PySem.W.keepIn K (.ref f14) = true)
    (a15 : PySem.W.nsIn K mainGlobals "_law_parsed" = some (some (.ref f15)))
    (l15 : K.lookup f15 = some ⟨oc15, od15, .func (PySem.W.fnOf "_law_parsed" "_law_parsed" (defArgs s__law_parsed) (defBody s__law_parsed) (defScope s__law_parsed) .none kV15 dc15 pm15 an15 cd15 ct15), sl15⟩)
    (c15 : PySem.W.codeIn K cd15 "_law_parsed" = true) (k15 : PySem.W.keepIn K (.ref f15) = true)
    (a16 : PySem.W.nsIn K mainGlobals "_law_uses" = some (some (.ref f16)))
    (l16 : K.lookup f16 = some ⟨oc16, od16, .func (PySem.W.fnOf "_law_uses" "_law_uses" (defArgs s__law_uses) (defBody s__law_uses) (defScope s__law_uses) .none kV16 dc16 pm16 an16 cd16 ct16), sl16⟩)
    (c16 : PySem.W.codeIn K cd16 "_law_uses" = true) (k16 : PySem.W.keepIn K (.ref f16) = true)
    (a17 : PySem.W.nsIn K mainGlobals "_law_fits" = some (some (.ref f17)))
    (l17 : K.lookup f17 = some ⟨oc17, od17, .func (PySem.W.fnOf "_law_fits" "_law_fits" (defArgs s__law_fits) (defBody s__law_fits) (defScope s__law_fits) .none kV17 dc17 pm17 an17 cd17 ct17), sl17⟩)
    (c17 : PySem.W.codeIn K cd17 "_law_fits" = true) (k17 : PySem.W.keepIn K (.ref f17) = true)
    (a18 : PySem.W.nsIn K mainGlobals "_law_word" = some (some (.ref f18)))
    (l18 : K.lookup f18 = some ⟨oc18, od18, .func (PySem.W.fnOf "_law_word" "_law_word" (defArgs s__law_word) (defBody s__law_word) (defScope s__law_word) .none kV18 dc18 pm18 an18 cd18 ct18), sl18⟩)
    (c18 : PySem.W.codeIn K cd18 "_law_word" = true) (k18 : PySem.W.keepIn K (.ref f18) = true)
    (a19 : PySem.W.nsIn K mainGlobals "_law_words" = some (some (.ref f19)))
    (l19 : K.lookup f19 = some ⟨oc19, od19, .func (PySem.W.fnOf "_law_words" "_law_words" (defArgs s__law_words) (defBody s__law_words) (defScope s__law_words) .none kV19 dc19 pm19 an19 cd19 ct19), sl19⟩)
    (c19 : PySem.W.codeIn K cd19 "_law_words" = true) (k19 : PySem.W.keepIn K (.ref f19) = true)
    (a20 : PySem.W.nsIn K mainGlobals "_law_holds" = some (some (.ref f20)))
    (l20 : K.lookup f20 = some ⟨oc20, od20, .func (PySem.W.fnOf "_law_holds" "_law_holds" (defArgs s__law_holds) (defBody s__law_holds) (defScope s__law_holds) .none kV20 dc20 pm20 an20 cd20 ct20), sl20⟩)
    (c20 : PySem.W.codeIn K cd20 "_law_holds" = true) (k20 : PySem.W.keepIn K (.ref f20) = true)
    (a21 : PySem.W.nsIn K mainGlobals "_law_source" = some (some (.ref f21)))
    (l21 : K.lookup f21 = some ⟨oc21, od21, .func (PySem.W.fnOf "_law_source" "_law_source" (defArgs s__law_source) (defBody s__law_source) (defScope s__law_source) .none kV21 dc21 pm21 an21 cd21 ct21), sl21⟩)
    (c21 : PySem.W.codeIn K cd21 "_law_source" = true) (k21 : PySem.W.keepIn K (.ref f21) = true)
    (a22 : PySem.W.nsIn K mainGlobals "law" = some (some (.ref f22)))
    (l22 : K.lookup f22 = some ⟨oc22, od22, .func (PySem.W.fnOf "law" "law" (defArgs s_law) (defBody s_law) (defScope s_law) .none kV22 dc22 pm22 an22 cd22 ct22), sl22⟩)
    (c22 : PySem.W.codeIn K cd22 "law" = true) (k22 : PySem.W.keepIn K (.ref f22) = true)
    (z_ValueError : PySem.W.nsIn K mainGlobals "ValueError" = some none)
    (z_all : PySem.W.nsIn K mainGlobals "all" = some none)
    (z_bool : PySem.W.nsIn K mainGlobals "bool" = some none)
    (z_enumerate : PySem.W.nsIn K mainGlobals "enumerate" = some none)
    (z_int : PySem.W.nsIn K mainGlobals "int" = some none)
    (z_isinstance : PySem.W.nsIn K mainGlobals "isinstance" = some none)
    (z_len : PySem.W.nsIn K mainGlobals "len" = some none)
    (z_list : PySem.W.nsIn K mainGlobals "list" = some none)
    (z_max : PySem.W.nsIn K mainGlobals "max" = some none)
    (z_min : PySem.W.nsIn K mainGlobals "min" = some none)
    (z_range : PySem.W.nsIn K mainGlobals "range" = some none)
    (z_set : PySem.W.nsIn K mainGlobals "set" = some none)
    (z_sorted : PySem.W.nsIn K mainGlobals "sorted" = some none)
    (z_str : PySem.W.nsIn K mainGlobals "str" = some none)
    (z_tuple : PySem.W.nsIn K mainGlobals "tuple" = some none)
    (z_type : PySem.W.nsIn K mainGlobals "type" = some none)
    (z_zip : PySem.W.nsIn K mainGlobals "zip" = some none)
    (y_LETTERS : PySem.W.nsIn K mainGlobals "LETTERS" = some (some (.str "abcdefghijklmnopqrstuvwxyz" t_LETTERS)))
    (y_MOST_LETTERS : PySem.W.nsIn K mainGlobals "MOST_LETTERS" = some (some (.int 12 t_MOST_LETTERS)))
    : ∃ fd : FuncData, (∀ (s : Shared) (v : Value), BindsTo s fd ⟨[v], []⟩ [("script", v)]) ∧ ∀ base : Heap, K.In base → base.Ns mainGlobals mg → GFn l.prog w K mg base CX0 8 fa fd ["script"] (lift K w lawV) := by
  have e := hfa.symm.trans (PySem.W.mg_of X G a22)
  cases e
  have n : Nm mg := ⟨PySem.W.mg_none_of X G z_ValueError, PySem.W.mg_none_of X G z_all, PySem.W.mg_none_of X G z_bool, PySem.W.mg_none_of X G z_enumerate, PySem.W.mg_none_of X G z_int, PySem.W.mg_none_of X G z_isinstance, PySem.W.mg_none_of X G z_len, PySem.W.mg_none_of X G z_list, PySem.W.mg_none_of X G z_max, PySem.W.mg_none_of X G z_min, PySem.W.mg_none_of X G z_range, PySem.W.mg_none_of X G z_set, PySem.W.mg_none_of X G z_sorted, PySem.W.mg_none_of X G z_str, PySem.W.mg_none_of X G z_tuple, PySem.W.mg_none_of X G z_type, PySem.W.mg_none_of X G z_zip, ⟨_, PySem.W.mg_of X G y_LETTERS⟩, ⟨_, PySem.W.mg_of X G y_MOST_LETTERS⟩⟩
  have F0 := fun_mk (st := s__law_draw) l0 c0 k0
  have F1 := fun_mk (st := s__law_damaged) l1 c1 k1
  have F2 := fun_mk (st := s__law_equal) l2 c2 k2
  have F3 := fun_mk (st := s__law_name_of) l3 c3 k3
  have F4 := fun_mk (st := s__split) l4 c4 k4
  have F5 := fun_mk (st := s_is_text) l5 c5 k5
  have F6 := fun_mk (st := s_is_word) l6 c6 k6
  have F7 := fun_mk (st := s__is_word_list) l7 c7 k7
  have F8 := fun_mk (st := s__least_clash) l8 c8 k8
  have F9 := fun_mk (st := s_is_history) l9 c9 k9
  have F10 := fun_mk (st := s_parse_words) l10 c10 k10
  have F11 := fun_mk (st := s__law_outcome) l11 c11 k11
  have F12 := fun_mk (st := s__law_is_word) l12 c12 k12
  have F13 := fun_mk (st := s__law_pairs) l13 c13 k13
  have F14 := fun_mk (st := s__law_is_uses) l14 c14 k14
  have F15 := fun_mk (st := s__law_parsed) l15 c15 k15
  have F16 := fun_mk (st := s__law_uses) l16 c16 k16
  have F17 := fun_mk (st := s__law_fits) l17 c17 k17
  have F18 := fun_mk (st := s__law_word) l18 c18 k18
  have F19 := fun_mk (st := s__law_words) l19 c19 k19
  have F20 := fun_mk (st := s__law_holds) l20 c20 k20
  have F21 := fun_mk (st := s__law_source) l21 c21 k21
  have F22 := fun_mk (st := s_law) l22 c22 k22
  refine ⟨PySem.W.fnOf "law" "law" (defArgs s_law) (defBody s_law) (defScope s_law) .none kV22 dc22 pm22 an22 cd22 ct22, fun s v => .of_eq rfl, fun base _ _ => ?_⟩
  have xf : XF K mg ⟨C_DifferentWordsError, C_EmptyHistoryError, C_FullError, C_GhosttextError, C_ImpossibleKeysError, C_InvalidBookError, C_InvalidFormatError, C_InvalidHistoryError, C_InvalidKeysError, C_InvalidNumberError, C_InvalidStateError, C_InvalidTextError, C_InvalidWordError, C_NothingTypedError, C_PrefixError, C_TooLongError, C_UnknownWordError⟩ := { g_DifferentWordsError := PySem.W.mg_of X G aX_DifferentWordsError, g_EmptyHistoryError := PySem.W.mg_of X G aX_EmptyHistoryError, g_FullError := PySem.W.mg_of X G aX_FullError, g_GhosttextError := PySem.W.mg_of X G aX_GhosttextError, g_ImpossibleKeysError := PySem.W.mg_of X G aX_ImpossibleKeysError, g_InvalidBookError := PySem.W.mg_of X G aX_InvalidBookError, g_InvalidFormatError := PySem.W.mg_of X G aX_InvalidFormatError, g_InvalidHistoryError := PySem.W.mg_of X G aX_InvalidHistoryError, g_InvalidKeysError := PySem.W.mg_of X G aX_InvalidKeysError, g_InvalidNumberError := PySem.W.mg_of X G aX_InvalidNumberError, g_InvalidStateError := PySem.W.mg_of X G aX_InvalidStateError, g_InvalidTextError := PySem.W.mg_of X G aX_InvalidTextError, g_InvalidWordError := PySem.W.mg_of X G aX_InvalidWordError, g_NothingTypedError := PySem.W.mg_of X G aX_NothingTypedError, g_PrefixError := PySem.W.mg_of X G aX_PrefixError, g_TooLongError := PySem.W.mg_of X G aX_TooLongError, g_UnknownWordError := PySem.W.mg_of X G aX_UnknownWordError, x_InvalidFormatError := ⟨PySem.W.mg_of X G aX_InvalidFormatError, xe_InvalidFormatError, xk_InvalidFormatError, xs_InvalidFormatError, xt_InvalidFormatError⟩, xc_InvalidFormatError := ⟨xa_InvalidFormatError, xb_InvalidFormatError, xs_InvalidFormatError, xd_InvalidFormatError, xo_InvalidFormatError, xg1, xg2, xm_InvalidFormatError⟩, kb_InvalidFormatError := xv_InvalidFormatError, em_InvalidFormatError_GhosttextError := xh_InvalidFormatError_GhosttextError, ki_InvalidFormatError_DifferentWordsError := xi_InvalidFormatError_DifferentWordsError, ki_InvalidFormatError_EmptyHistoryError := xi_InvalidFormatError_EmptyHistoryError, ki_InvalidFormatError_FullError := xi_InvalidFormatError_FullError, ki_InvalidFormatError_GhosttextError := xi_InvalidFormatError_GhosttextError, ki_InvalidFormatError_ImpossibleKeysError := xi_InvalidFormatError_ImpossibleKeysError, ki_InvalidFormatError_InvalidBookError := xi_InvalidFormatError_InvalidBookError, ki_InvalidFormatError_InvalidFormatError := xi_InvalidFormatError_InvalidFormatError, ki_InvalidFormatError_InvalidHistoryError := xi_InvalidFormatError_InvalidHistoryError, ki_InvalidFormatError_InvalidKeysError := xi_InvalidFormatError_InvalidKeysError, ki_InvalidFormatError_InvalidNumberError := xi_InvalidFormatError_InvalidNumberError, ki_InvalidFormatError_InvalidStateError := xi_InvalidFormatError_InvalidStateError, ki_InvalidFormatError_InvalidTextError := xi_InvalidFormatError_InvalidTextError, ki_InvalidFormatError_InvalidWordError := xi_InvalidFormatError_InvalidWordError, ki_InvalidFormatError_NothingTypedError := xi_InvalidFormatError_NothingTypedError, ki_InvalidFormatError_PrefixError := xi_InvalidFormatError_PrefixError, ki_InvalidFormatError_TooLongError := xi_InvalidFormatError_TooLongError, ki_InvalidFormatError_UnknownWordError := xi_InvalidFormatError_UnknownWordError }
  have D0 := ok__law_draw (P := l.prog) (w := w) (base := base) n  F0
  have C0 : GF l.prog w K mg base 1 "_law_draw" (liftC K w sp__law_draw) := ⟨_, _, _, PySem.W.mg_of X G a0, k0, (F0.binds (ps := ["source", "count"]) fun _ _ _ _ _ _ us hl => match us, hl with | [_, _], _ => rfl), D0⟩
  have D1 := ok__law_damaged (P := l.prog) (w := w) (base := base) n C0 F1
  have C1 : GF l.prog w K mg base 2 "_law_damaged" (liftC K w sp__law_damaged) := ⟨_, _, _, PySem.W.mg_of X G a1, k1, (F1.binds (ps := ["source", "line", "pool", "mark"]) fun _ _ _ _ _ _ us hl => match us, hl with | [_, _, _, _], _ => rfl), D1⟩
  have C2_0 : GC l.prog w K mg base 0 "_law_equal" (lift K w (sp__law_equal 0)) := ⟨_, _, _, PySem.W.mg_of X G a2, k2, (F2.binds (ps := ["result", "expected"]) fun _ _ _ _ _ _ us hl => match us, hl with | [_, _], _ => rfl), GFn.no0 no__law_equal⟩
  have C2_1 : GC l.prog w K mg base 1 "_law_equal" (lift K w (sp__law_equal 1)) := ⟨_, _, _, PySem.W.mg_of X G a2, k2, (F2.binds (ps := ["result", "expected"]) fun _ _ _ _ _ _ us hl => match us, hl with | [_, _], _ => rfl), ok__law_equal (P := l.prog) (w := w) (base := base) n 0  C2_0 F2⟩
  have C2_2 : GC l.prog w K mg base 2 "_law_equal" (lift K w (sp__law_equal 2)) := ⟨_, _, _, PySem.W.mg_of X G a2, k2, (F2.binds (ps := ["result", "expected"]) fun _ _ _ _ _ _ us hl => match us, hl with | [_, _], _ => rfl), ok__law_equal (P := l.prog) (w := w) (base := base) n 1  C2_1 F2⟩
  have C2 : GC l.prog w K mg base 3 "_law_equal" (lift K w (sp__law_equal 3)) := ⟨_, _, _, PySem.W.mg_of X G a2, k2, (F2.binds (ps := ["result", "expected"]) fun _ _ _ _ _ _ us hl => match us, hl with | [_, _], _ => rfl), ok__law_equal (P := l.prog) (w := w) (base := base) n 2  C2_2 F2⟩
  have C3 : GE l.prog w K mg base 1 "_law_name_of" (fun a cls d => lift K w (sp__law_name_of ⟨C_DifferentWordsError, C_EmptyHistoryError, C_FullError, C_GhosttextError, C_ImpossibleKeysError, C_InvalidBookError, C_InvalidFormatError, C_InvalidHistoryError, C_InvalidKeysError, C_InvalidNumberError, C_InvalidStateError, C_InvalidTextError, C_InvalidWordError, C_NothingTypedError, C_PrefixError, C_TooLongError, C_UnknownWordError⟩ a cls d)) := ⟨_, _, _, PySem.W.mg_of X G a3, k3, (F3.binds (ps := ["caught"]) fun _ _ _ _ _ _ us hl => match us, hl with | [_], _ => rfl), ok__law_name_of (P := l.prog) (w := w) (base := base) n xf F3⟩
  have C4 : GX l.prog w K mg base 1 "_split" (liftX K w (sp__split ⟨C_DifferentWordsError, C_EmptyHistoryError, C_FullError, C_GhosttextError, C_ImpossibleKeysError, C_InvalidBookError, C_InvalidFormatError, C_InvalidHistoryError, C_InvalidKeysError, C_InvalidNumberError, C_InvalidStateError, C_InvalidTextError, C_InvalidWordError, C_NothingTypedError, C_PrefixError, C_TooLongError, C_UnknownWordError⟩)) := ⟨_, _, _, PySem.W.mg_of X G a4, k4, (F4.binds (ps := ["text"]) fun _ _ _ _ _ _ us hl => match us, hl with | [_], _ => rfl), ok__split (P := l.prog) (w := w) (base := base) n xf F4⟩
  have D5 := ok_is_text (P := l.prog) (w := w) (base := base) n  F5
  have C5 : GF l.prog w K mg base 1 "is_text" (lift K w sp_is_text) := ⟨_, _, _, PySem.W.mg_of X G a5, k5, (F5.binds (ps := ["value"]) fun _ _ _ _ _ _ us hl => match us, hl with | [_], _ => rfl), D5⟩
  have D6 := ok_is_word (P := l.prog) (w := w) (base := base) n C5 F6
  have C6 : GF l.prog w K mg base 2 "is_word" (lift K w sp_is_word) := ⟨_, _, _, PySem.W.mg_of X G a6, k6, (F6.binds (ps := ["value"]) fun _ _ _ _ _ _ us hl => match us, hl with | [_], _ => rfl), D6⟩
  have D7 := ok__is_word_list (P := l.prog) (w := w) (base := base) n C6 F7
  have C7 : GF l.prog w K mg base 3 "_is_word_list" (lift K w sp__is_word_list) := ⟨_, _, _, PySem.W.mg_of X G a7, k7, (F7.binds (ps := ["value"]) fun _ _ _ _ _ _ us hl => match us, hl with | [_], _ => rfl), D7⟩
  have D8 := ok__least_clash (P := l.prog) (w := w) (base := base) n  F8
  have C8 : GF l.prog w K mg base 1 "_least_clash" (lift K w sp__least_clash) := ⟨_, _, _, PySem.W.mg_of X G a8, k8, (F8.binds (ps := ["words"]) fun _ _ _ _ _ _ us hl => match us, hl with | [_], _ => rfl), D8⟩
  have D9 := ok_is_history (P := l.prog) (w := w) (base := base) n C7 C8 F9
  have C9 : GF l.prog w K mg base 4 "is_history" (lift K w sp_is_history) := ⟨_, _, _, PySem.W.mg_of X G a9, k9, (F9.binds (ps := ["value"]) fun _ _ _ _ _ _ us hl => match us, hl with | [_], _ => rfl), D9⟩
  have C10 : GX l.prog w K mg base 5 "parse_words" (liftX K w (sp_parse_words ⟨C_DifferentWordsError, C_EmptyHistoryError, C_FullError, C_GhosttextError, C_ImpossibleKeysError, C_InvalidBookError, C_InvalidFormatError, C_InvalidHistoryError, C_InvalidKeysError, C_InvalidNumberError, C_InvalidStateError, C_InvalidTextError, C_InvalidWordError, C_NothingTypedError, C_PrefixError, C_TooLongError, C_UnknownWordError⟩)) := ⟨_, _, _, PySem.W.mg_of X G a10, k10, (F10.binds (ps := ["text"]) fun _ _ _ _ _ _ us hl => match us, hl with | [_], _ => rfl), ok_parse_words (P := l.prog) (w := w) (base := base) n xf C4 C9 F10⟩
  have C11 : GC l.prog w K mg base 6 "_law_outcome" (lift K w sp__law_outcome) := ⟨_, _, _, PySem.W.mg_of X G a11, k11, (F11.binds (ps := ["value"]) fun _ _ _ _ _ _ us hl => match us, hl with | [_], _ => rfl), ok__law_outcome (P := l.prog) (w := w) (base := base) n xf C3 C10 F11⟩
  have D12 := ok__law_is_word (P := l.prog) (w := w) (base := base) n  F12
  have C12 : GF l.prog w K mg base 1 "_law_is_word" (lift K w sp__law_is_word) := ⟨_, _, _, PySem.W.mg_of X G a12, k12, (F12.binds (ps := ["value"]) fun _ _ _ _ _ _ us hl => match us, hl with | [_], _ => rfl), D12⟩
  have D13 := ok__law_pairs (P := l.prog) (w := w) (base := base) n  F13
  have C13 : GF l.prog w K mg base 1 "_law_pairs" (lift K w sp__law_pairs) := ⟨_, _, _, PySem.W.mg_of X G a13, k13, (F13.binds (ps := ["words"]) fun _ _ _ _ _ _ us hl => match us, hl with | [_], _ => rfl), D13⟩
  have D14 := ok__law_is_uses (P := l.prog) (w := w) (base := base) n C12 C13 F14
  have C14 : GF l.prog w K mg base 2 "_law_is_uses" (lift K w sp__law_is_uses) := ⟨_, _, _, PySem.W.mg_of X G a14, k14, (F14.binds (ps := ["value"]) fun _ _ _ _ _ _ us hl => match us, hl with | [_], _ => rfl), D14⟩
  have D15 := ok__law_parsed (P := l.prog) (w := w) (base := base) n C14 F15
  have C15 : GF l.prog w K mg base 3 "_law_parsed" (lift K w sp__law_parsed) := ⟨_, _, _, PySem.W.mg_of X G a15, k15, (F15.binds (ps := ["written"]) fun _ _ _ _ _ _ us hl => match us, hl with | [_], _ => rfl), D15⟩
  have D16 := ok__law_uses (P := l.prog) (w := w) (base := base) n C0 F16
  have C16 : GF l.prog w K mg base 2 "_law_uses" (liftC K w sp__law_uses) := ⟨_, _, _, PySem.W.mg_of X G a16, k16, (F16.binds (ps := ["source", "words", "most"]) fun _ _ _ _ _ _ us hl => match us, hl with | [_, _, _], _ => rfl), D16⟩
  have D17 := ok__law_fits (P := l.prog) (w := w) (base := base) n  F17
  have C17 : GF l.prog w K mg base 1 "_law_fits" (lift K w sp__law_fits) := ⟨_, _, _, PySem.W.mg_of X G a17, k17, (F17.binds (ps := ["words", "word"]) fun _ _ _ _ _ _ us hl => match us, hl with | [_, _], _ => rfl), D17⟩
  have D18 := ok__law_word (P := l.prog) (w := w) (base := base) n C0 F18
  have C18 : GF l.prog w K mg base 2 "_law_word" (liftC K w sp__law_word) := ⟨_, _, _, PySem.W.mg_of X G a18, k18, (F18.binds (ps := ["source", "letters", "size"]) fun _ _ _ _ _ _ us hl => match us, hl with | [_, _, _], _ => rfl), D18⟩
  have D19 := ok__law_words (P := l.prog) (w := w) (base := base) n C0 C17 C18 F19
  have C19 : GF l.prog w K mg base 3 "_law_words" (liftC K w sp__law_words) := ⟨_, _, _, PySem.W.mg_of X G a19, k19, (F19.binds (ps := ["source", "most"]) fun _ _ _ _ _ _ us hl => match us, hl with | [_, _], _ => rfl), D19⟩
  have C20 : GC l.prog w K mg base 7 "_law_holds" (liftC K w sp__law_holds) := ⟨_, _, _, PySem.W.mg_of X G a20, k20, (F20.binds (ps := ["source", "most"]) fun _ _ _ _ _ _ us hl => match us, hl with | [_, _], _ => rfl), ok__law_holds (P := l.prog) (w := w) (base := base) n C1 C0 C2 C11 C15 C16 C19 F20⟩
  have D21 := ok__law_source (P := l.prog) (w := w) (base := base) n  F21
  have C21 : GF l.prog w K mg base 1 "_law_source" (lift K w sp__law_source) := ⟨_, _, _, PySem.W.mg_of X G a21, k21, (F21.binds (ps := ["cell", "k"]) fun _ _ _ _ _ _ us hl => match us, hl with | [_, _], _ => rfl), D21⟩
  exact ok_law (P := l.prog) (w := w) (base := base) n C20 C21 F22
end My
open PySem PySem.W PyProof.Rows
set_option maxHeartbeats 0 in
theorem PySem.Challenge.cw_ghosttext_k09_invalid_texts_of_words_holds : PySem.Challenge.rw_ghosttext_k09_invalid_texts_of_words.Holds := by
  w_on; o_law; k_head; (case hw => w_witness2)
  k_fill
  refine Gd.walk_ofG (l := PySem.Challenge.rw_ghosttext_k09_invalid_texts_of_words) (n := 63) (k := 8) (x := "script") (sp := fun w => Gd.lift _ w Gd.lawV) rfl (by decide) rfl ⟨rfl, by decide, by decide⟩ (fun w h Y => PySem.W.kIn_of Y) ?F (fun _ _ a ns hl hb _ hS => Gd.law_start hl hb hS)
  case F =>
    intro w mg fa h KX G hmg
    refine' My.all_mk KX G hmg ?aX_DifferentWordsError ?aX_EmptyHistoryError ?aX_FullError ?aX_GhosttextError ?aX_ImpossibleKeysError ?aX_InvalidBookError ?aX_InvalidFormatError ?aX_InvalidHistoryError ?aX_InvalidKeysError ?aX_InvalidNumberError ?aX_InvalidStateError ?aX_InvalidTextError ?aX_InvalidWordError ?aX_NothingTypedError ?aX_PrefixError ?aX_TooLongError ?aX_UnknownWordError ?xg1 ?xg2 ?xe_InvalidFormatError ?xk_InvalidFormatError ?xs_InvalidFormatError ?xt_InvalidFormatError ?xa_InvalidFormatError ?xb_InvalidFormatError ?xd_InvalidFormatError ?xo_InvalidFormatError ?xm_InvalidFormatError ?xv_InvalidFormatError ?xh_InvalidFormatError_GhosttextError ?xi_InvalidFormatError_DifferentWordsError ?xi_InvalidFormatError_EmptyHistoryError ?xi_InvalidFormatError_FullError ?xi_InvalidFormatError_GhosttextError ?xi_InvalidFormatError_ImpossibleKeysError ?xi_InvalidFormatError_InvalidBookError ?xi_InvalidFormatError_InvalidFormatError ?xi_InvalidFormatError_InvalidHistoryError ?xi_InvalidFormatError_InvalidKeysError ?xi_InvalidFormatError_InvalidNumberError ?xi_InvalidFormatError_InvalidStateError ?xi_InvalidFormatError_InvalidTextError ?xi_InvalidFormatError_InvalidWordError ?xi_InvalidFormatError_NothingTypedError ?xi_InvalidFormatError_PrefixError ?xi_InvalidFormatError_TooLongError ?xi_InvalidFormatError_UnknownWordError ?a0 ?l0 ?c0 ?k0 ?a1 ?l1 ?c1 ?k1 ?a2 ?l2 ?c2 ?k2 ?a3 ?l3 ?c3 ?k3 ?a4 ?l4 ?c4 ?k4 ?a5 ?l5 ?c5 ?k5 ?a6 ?l6 ?c6 ?k6 ?a7 ?l7 ?c7 ?k7 ?a8 ?l8 ?c8 ?k8 ?a9 ?l9 ?c9 ?k9 ?a10 ?l10 ?c10 ?k10 ?a11 ?l11 ?c11 ?k11 ?a12 ?l12 ?c12 ?k12 ?a13 ?l13 ?c13 ?k13 ?a14 ?l14 ?c14 ?k14 ?a15 ?l15 ?c15 ?k15 ?a16 ?l16 ?c16 ?k16 ?a17 ?l17 ?c17 ?k17 ?a18 ?l18 ?c18 ?k18 ?a19 ?l19 ?c19 ?k19 ?a20 ?l20 ?c20 ?k20 ?a21 ?l21 ?c21 ?k21 ?a22 ?l22 ?c22 ?k22 ?z_ValueError ?z_all ?z_bool ?z_enumerate ?z_int ?z_isinstance ?z_len ?z_list ?z_max ?z_min ?z_range ?z_set ?z_sorted ?z_str ?z_tuple ?z_type ?z_zip ?y_LETTERS ?y_MOST_LETTERS
    (case aX_DifferentWordsError => k_is); (case aX_EmptyHistoryError => k_is); (case aX_FullError => k_is); (case aX_GhosttextError => k_is); (case aX_ImpossibleKeysError => k_is); (case aX_InvalidBookError => k_is); (case aX_InvalidFormatError => k_is); (case aX_InvalidHistoryError => k_is)
    (case aX_InvalidKeysError => k_is); (case aX_InvalidNumberError => k_is); (case aX_InvalidStateError => k_is); (case aX_InvalidTextError => k_is); (case aX_InvalidWordError => k_is); (case aX_NothingTypedError => k_is); (case aX_PrefixError => k_is); (case aX_TooLongError => k_is)
    (case aX_UnknownWordError => k_is); (case xg1 => k_is); (case xg2 => k_is); (case xe_InvalidFormatError => (first | k_is | k_exc | kit_is | kts_exm)); (case xk_InvalidFormatError => (first | k_is | k_exc | kit_is | kts_exm)); (case xs_InvalidFormatError => (first | k_is | k_exc | kit_is | kts_exm)); (case xt_InvalidFormatError => (first | k_is | k_exc | kit_is | kts_exm)); (case xa_InvalidFormatError => (first | k_is | k_exc | kit_is | kts_exm))
    (case xb_InvalidFormatError => (first | k_is | k_exc | kit_is | kts_exm)); (case xd_InvalidFormatError => (first | k_is | k_exc | kit_is | kts_exm)); (case xo_InvalidFormatError => (first | k_is | k_exc | kit_is | kts_exm)); (case xm_InvalidFormatError => (first | k_is | k_exc | kit_is | kts_exm)); (case xv_InvalidFormatError => (first | k_is | k_exc | kit_is | kts_exm)); (case xh_InvalidFormatError_GhosttextError => (first | k_is | k_exc | kit_is | kts_exm)); (case xi_InvalidFormatError_DifferentWordsError => (first | k_is | k_exc | kit_is | kts_exm)); (case xi_InvalidFormatError_EmptyHistoryError => (first | k_is | k_exc | kit_is | kts_exm))
    (case xi_InvalidFormatError_FullError => (first | k_is | k_exc | kit_is | kts_exm)); (case xi_InvalidFormatError_GhosttextError => (first | k_is | k_exc | kit_is | kts_exm)); (case xi_InvalidFormatError_ImpossibleKeysError => (first | k_is | k_exc | kit_is | kts_exm)); (case xi_InvalidFormatError_InvalidBookError => (first | k_is | k_exc | kit_is | kts_exm)); (case xi_InvalidFormatError_InvalidFormatError => (first | k_is | k_exc | kit_is | kts_exm)); (case xi_InvalidFormatError_InvalidHistoryError => (first | k_is | k_exc | kit_is | kts_exm)); (case xi_InvalidFormatError_InvalidKeysError => (first | k_is | k_exc | kit_is | kts_exm)); (case xi_InvalidFormatError_InvalidNumberError => (first | k_is | k_exc | kit_is | kts_exm))
    (case xi_InvalidFormatError_InvalidStateError => (first | k_is | k_exc | kit_is | kts_exm)); (case xi_InvalidFormatError_InvalidTextError => (first | k_is | k_exc | kit_is | kts_exm)); (case xi_InvalidFormatError_InvalidWordError => (first | k_is | k_exc | kit_is | kts_exm)); (case xi_InvalidFormatError_NothingTypedError => (first | k_is | k_exc | kit_is | kts_exm)); (case xi_InvalidFormatError_PrefixError => (first | k_is | k_exc | kit_is | kts_exm)); (case xi_InvalidFormatError_TooLongError => (first | k_is | k_exc | kit_is | kts_exm)); (case xi_InvalidFormatError_UnknownWordError => (first | k_is | k_exc | kit_is | kts_exm)); (case a0 => k_is)
    (case l0 => k_is); (case c0 => k_is); (case k0 => k_is); (case a1 => k_is); (case l1 => k_is); (case c1 => k_is); (case k1 => k_is); (case a2 => k_is)
    (case l2 => k_is); (case c2 => k_is); (case k2 => k_is); (case a3 => k_is); (case l3 => k_is); (case c3 => k_is); (case k3 => k_is); (case a4 => k_is)
    (case l4 => k_is); (case c4 => k_is); (case k4 => k_is); (case a5 => k_is); (case l5 => k_is); (case c5 => k_is); (case k5 => k_is); (case a6 => k_is)
    (case l6 => k_is); (case c6 => k_is); (case k6 => k_is); (case a7 => k_is); (case l7 => k_is); (case c7 => k_is); (case k7 => k_is); (case a8 => k_is)
    (case l8 => k_is); (case c8 => k_is); (case k8 => k_is); (case a9 => k_is); (case l9 => k_is); (case c9 => k_is); (case k9 => k_is); (case a10 => k_is)
    (case l10 => k_is); (case c10 => k_is); (case k10 => k_is); (case a11 => k_is); (case l11 => k_is); (case c11 => k_is); (case k11 => k_is); (case a12 => k_is)
    (case l12 => k_is); (case c12 => k_is); (case k12 => k_is); (case a13 => k_is); (case l13 => k_is); (case c13 => k_is); (case k13 => k_is); (case a14 => k_is)
    (case l14 => k_is); (case c14 => k_is); (case k14 => k_is); (case a15 => k_is); (case l15 => k_is); (case c15 => k_is); (case k15 => k_is); (case a16 => k_is)
    (case l16 => k_is); (case c16 => k_is); (case k16 => k_is); (case a17 => k_is); (case l17 => k_is); (case c17 => k_is); (case k17 => k_is); (case a18 => k_is)
    (case l18 => k_is); (case c18 => k_is); (case k18 => k_is); (case a19 => k_is); (case l19 => k_is); (case c19 => k_is); (case k19 => k_is); (case a20 => k_is)
    (case l20 => k_is); (case c20 => k_is); (case k20 => k_is); (case a21 => k_is); (case l21 => k_is); (case c21 => k_is); (case k21 => k_is); (case a22 => k_is)
    (case l22 => k_is); (case c22 => k_is); (case k22 => k_is); (case z_ValueError => k_is); (case z_all => k_is); (case z_bool => k_is); (case z_enumerate => k_is); (case z_int => k_is)
    (case z_isinstance => k_is); (case z_len => k_is); (case z_list => k_is); (case z_max => k_is); (case z_min => k_is); (case z_range => k_is); (case z_set => k_is); (case z_sorted => k_is)
    (case z_str => k_is); (case z_tuple => k_is); (case z_type => k_is); (case z_zip => k_is); (case y_LETTERS => k_is); (case y_MOST_LETTERS => k_is)
