import PyProof.Rows.All
import Wide.All
import OpenK.AllK
import Wide.FinOn
import HandS.ForMost
import HandS.Wide
import HandS.Style
import HandS.Flow
import HandS.RaiseMore
import HandS.Defaults
import HandS.MakeKwOnly
import HandS.Evl
import KE.DataCmp
import HandS.Property
import HandS.Comp
import HandS.DictComp
import HandS.ExcInit
import HandS.ExcIs
import HandS.More
import HandS.Star
import HandS.Strs
import HandS.TryOnly
import HandS.CallSlots
import HandS.WordsExc
import HandS.GenList
import HandS.GenYield
import KE.SortData
import KE.DataMinMax
import HandS.Iter
import KE.KItemsList
import HandS.NamedTupSort
import HandS.Deep
import HandS.NamedTupGet
import HandS.Walk
import HandS.Zip
import PyProof.StrBlock2
import KE.GoesEnum
import HandS.SetFor
import PyProof.SeqIndex
import HandS.SetKeys
import HandS.TupAny
import HandS.IsInst
import HandS.FStr
import HandS.ExcField
import HandS.JoinGen
import HandS.Text
import HandS.Dict
import HandS.NoneIn
import HandS.ClsMeth
import PyProof.TupleOfSeq
import KE.SortCalls
import PyProof.EqKinds
import PyProof.EqAt
import PyProof.NeData
import PyProof.P3In
import OpenK.XHead
import HandS.SetTxt0
import PyProof.Rows.StrRev
import PyProof.Ascii
import PyProof.FitsInt
import PyProof.Rows.ReprOcc
import HandS.SetBool
import PySem.Challenge.RW_ownwake_k11_columns_that_are_read
set_option Elab.async false
set_option maxRecDepth 100000
/-! defs that are called where nothing is being shown (repr): the layer's own def rule with that one fact carried along -/
namespace Own
open PySem PySem.Spec PyProof.Rows L2

abbrev Quiet (A : Around) : Prop := A.guards = some []

/-- a def that keeps sp, called where nothing is being shown -/
structure GOk (P : Program) (w : World) (K : PySem.W.Frag) (mg : Str → Option Value) (g0 : Heap) (Z : CXT) (k : Nat)
    (f : Addr) (fd : FuncData) (ps : List Str) (sp : Sp) : Prop where
  len : ∀ vs H Q E, sp vs H Q E → vs.length = ps.length
  run : ∀ (A : Around) (up : List Env) (s : Shared) (H : Hp) (as : Args) (us : List Value) (vs : List V) (Q : VK) (E : XK),
    Quiet A → Room k A → Env0 P w K mg g0 A up s H → BindsTo s fd as (ps.zip us) → Vals vs us → sp vs H Q E →
    codeAny (model P w) A (.call (.ref f) as) (CR Z up P w H s Q E) s

section
variable {P : Program} {w : World} {K : PySem.W.Frag} {mg : Str → Option Value} {g0 : Heap} {Z : CXT} {k j : Nat}
  {f : Addr} {fd : FuncData} {ps : List Str} {sp : Sp}
theorem GOk.of (F : FnOk P w K mg g0 Z k f fd ps sp) : GOk P w K mg g0 Z k f fd ps sp :=
  ⟨F.len, fun A up s H as us vs Q E _ => F.run A up s H as us vs Q E⟩
theorem GOk.mono (F : GOk P w K mg g0 Z j f fd ps sp) (h : j ≤ k) : GOk P w K mg g0 Z k f fd ps sp :=
  ⟨F.len, fun A up s H as us vs Q E q r => F.run A up s H as us vs Q E q (r.mono h)⟩
end

section
variable {X : Cx} {Z : CXT} {k : Nat} {f : Addr} {fd : FuncData} {ps : List Str} {sp : Sp} {dvs : List V} {ds : List Value}
  {E : XK} {x : Str} {p pos : Pos} {e : Expr} {es : List Expr} {t : TA}

theorem goRun {pins : List (Addr × Obj)} {σ : L2.St} {H : Hp} {s : Shared} {Q : VK} {us : List Value} {vs : List V}
    (qt : Quiet X.A) (F : GOk X.prog X.w X.K X.mg X.base Z k f fd ps sp) (room : Room k X.A)
    (bd : Binds X.K fd ps ds) (dv : Vals dvs ds) (px : Passes Z X E) (I : Inv X pins σ H s) (rv : Vals vs us)
    (q : sp (vs ++ dvs) H Q E) : wpAny (model X.prog X.w) X.A (call (.ref f) us) (EP X pins σ Q) X.xe s := by
  have rr : Vals (vs ++ dvs) (us ++ ds) := rv.append dv
  have ll : (us ++ ds).length = ps.length := rr.length.symm.trans (F.len _ _ _ _ q)
  have cc := F.run X.A X.stack s H ⟨us, []⟩ (us ++ ds) (vs ++ dvs) Q E qt room I.env0 (bd s us I.kIn ll) rr q
  refine wpAny_call (codeAny_mono cc ?_)
  intro r s' z
  match r, z with
  | .error e, z => exact px pins σ H s e s' I z
  | .ok (.ret u), z => exact I.after z
  | .ok .next, z => exact z.elim
  | .ok .brk, z => exact z.elim
  | .ok .cont, z => exact z.elim

/-- f(e, ..) -/
theorem pe_callG (qt : Quiet X.A) (F : GOk X.prog X.w X.K X.mg X.base Z k f fd ps sp) (room : Room k X.A) (gl : Gl X x)
    (at_ : X.mg x = some (.ref f)) (kp : PySem.W.keepIn X.K (.ref f) = true) (bd : Binds X.K fd ps ds) (dv : Vals dvs ds)
    (px : Passes Z X E) (pa : PA X (e :: es) t) (nodbg : (x == ("__debug__" : Str)) = false := by decide)
    (st : starEach (e :: es) X.env = (false, eval e X.env) :: starEach es X.env := by rfl)
    (pl : (backTo pos (starEach es X.env)).any (·.1) = false := by rfl) :
    PE X (.Call (.Name x p) (e :: es) [] pos) (tCall sp dvs E t) := by
  constructor
  intro pins s σ H Q I q
  refine wpAny_Call_Name_kw (ld_glob I gl at_ ?_ nodbg)
  refine PySem.W.callWith_K (h₀ := X.base) I.ok.mod.kin kp ?_ st pl
  exact thn (pa.run pos pins s σ H _ I q) fun us s1 ⟨vs, H1, I1, rv, q1⟩ => ⟨I1.kIn, goRun qt F room bd dv px I1 rv q1⟩
end

/-- a def of the text, by its body, where nothing is being shown -/
theorem okG {P : Program} {w : World} {K : PySem.W.Frag} {mg : Str → Option Value} {g0 : Heap} {x qual : Str} {st : Stmt} {f : Addr}
    {fd : FuncData} {N ps : List Str} {k : Nat} {sp : Sp} (F : Fun K x qual st f fd) (S : FnScope N ps (defScope st))
    (len : ∀ vs H Q E, sp vs H Q E → vs.length = ps.length)
    (body : ∀ (cdv : Value) (A : Around) (up : List Env) (s : Shared) (H : Hp) (vs : List V) (Q : VK) (E : XK), Quiet A →
      Room k (A.deeper (envOfC qual (defScope st) s.heap.objs.size f cdv)) → sp vs H Q E →
      ∃ t, PSs (cxOf CX0 P w K mg g0 N qual (defScope st) f cdv A up s H E).nox (defBody st) t ∧
        t { nx := fun _ H' => Q .non H', rt := Q } (start N vs) H) : GOk P w K mg g0 CX0 (k + 1) f fd ps sp := by
  obtain ⟨oc, od, kV, doc, pm, an, cdv, ct, osl, rfl, lk, hcd⟩ := F.ex
  refine ⟨len, ?_⟩
  intro A up s H as us vs Q E qt room e0 bd rv q
  have ll := len _ _ _ _ q
  have kk : K.In s.heap := e0.mod.kin.keeps fun b o e => (e0.bs b o e).1
  have nolim : s.heap.NoLimit := e0.mod.nolimit.keeps fun b o e => (e0.bs b o e).1
  have names : ∀ y ∈ ps.zip us, (defScope st).names.lookup y.1 = some .local ∨
      ((defScope st).names.lookup y.1 = some .cell ∧
        ((cellsFrom (s.heap.objs.size + 1) (defScope st).names []).lookup y.1).isSome = true) := by
    rintro ⟨n, v⟩ hy
    exact (S.par n (List.of_mem_zip hy).1).imp id fun z => ⟨z, PySem.W.cellsFrom_some _ _ _ (.inl z)⟩
  refine codeAny_call_function room.depth (kk _ _ lk) rfl S.co S.gen rfl (PySem.W.codeRec_of kk hcd) (bd _ _ _ _ ?_)
  refine wpAny_newFunctionEnv_cells S.kind names ?_
  intro env he s1 ic
  subst he
  refine ⟨nolim.keeps ic.toInCall.keep, codeAny_func ?_⟩
  obtain ⟨t, pt, rd⟩ := body cdv A up s H vs Q E qt (room.deeper _) q
  have I := inv_start (CX := CX0) (E := E) S room.hd e0 ll rv ic
  have run := (PSs.nox pt).run [] s1 (start N vs) H _ I rd
  refine wpAny_mono run ?_ fun e s' z => z
  intro fl s' z
  have fin : ∀ {σ' : L2.St} {H' : Hp} {v : V} {u : Value},
      Inv (cxOf CX0 P w K mg g0 N qual (defScope st) f cdv A up s H E) [] σ' H' s' → RelV v u → Q v H' → CE up P w H s Q u s' := by
    intro σ' H' v u J rr qq
    exact ⟨v, H', J.os, J.bare, J.base, J.hok, rr, qq⟩
  match fl, z with
  | .ret u, ⟨v, σ', H', J, rr, qq⟩ => exact fin J rr qq
  | .next, ⟨σ', H', J, qq⟩ => exact fin (v := V.non) (u := Value.none) J rfl qq
  | .brk, ⟨_, _, _, z⟩ => exact z.elim
  | .cont, ⟨_, _, _, z⟩ => exact z.elim

theorem quiet_deeper {A : Around} {env : Env} (q : Quiet A) : Quiet (A.deeper env) := q
theorem quiet_caller : Quiet callerA := rfl

/-! ### repr of data -/
mutual
theorem dp_nodict {K : PySem.W.Frag} {H : Hp} : ∀ {d : PyData} {v : V}, Dp K H v d → d.hasDict = false
  | .none, _, _ => rfl
  | .bool _, _, _ => rfl
  | .int _, _, _ => rfl
  | .str _, _, _ => rfl
  | .list _, _, .lst _ a => dps_nodict a
  | .tuple _, _, .tup _ a => dps_nodict a
theorem dps_nodict {K : PySem.W.Frag} {H : Hp} : ∀ {ds : List PyData} {vs : List V}, DpAll K H vs ds → PyData.hasDictAll ds = false
  | [], _, _ => rfl
  | _ :: _, _, .cons a b => by
    show (_ || _) = false
    rw [dp_nodict a, dps_nodict b]
    rfl
end
/-- repr(x), x data -/
def rRepr (K : PySem.W.Frag) : List V → Hp → VK → Prop := fun xs H Q =>
  ∃ x d, xs = [x] ∧ Dp K H x d ∧ d.showable = true ∧ d.depth ≤ 60 ∧ d.shown.length ≤ sizeLine ∧ Q (.str d.shown) H
theorem call_repr {X : Cx} (qt : Quiet X.A) (hu : X.A.units + 64 < cLine) : CallR X (.builtin "repr") (rRepr X.K) := by
  intro pins s σ H xs us Q I rv h
  obtain ⟨x, d, rfl, hd, hs, hz, hl, q⟩ := h
  obtain ⟨u, rfl, rx⟩ : ∃ u, us = [u] ∧ RelV x u := by
    cases rv with
    | cons a b =>
      cases b
      exact ⟨_, rfl, a⟩
  obtain ⟨as, rd⟩ := Dp.reads I d x u hd rx
  have nd := dp_nodict hd
  cases hd with
  | non =>
    cases rx
    exact P.repr_of_none ⟨.str "None", H, I.tok _, ⟨_, rfl⟩, q⟩
  | bl b =>
    cases rx
    exact P.repr_of_bool ⟨.str (if b then "True" else "False"), H, I.tok _, ⟨_, rfl⟩, q⟩
  | int i =>
    obtain ⟨t, rfl⟩ := rx
    refine P.repr_of_int ?_ ⟨.str (toString i), H, I.tok _, ⟨_, rfl⟩, q⟩
    simpa [PyData.showable] using hs
  | str y =>
    obtain ⟨t, rfl⟩ := rx
    exact P.repr_of_str ⟨.str (reprText y), H, I.tok _, ⟨_, rfl⟩, q⟩ hl
  | lst _ _ =>
    cases rx
    exact repr_of_reads' rd hs (fun z => by rw [nd] at z; cases z) qt (by omega) (fun _ _ z => z)
      (fun h' w tk k => ⟨.str _, H, I.kept k, ⟨_, rfl⟩, q⟩) hl
  | tup _ _ =>
    cases rx
    exact repr_of_reads' rd hs (fun z => by rw [nd] at z; cases z) qt (by omega) (fun _ _ z => z)
      (fun h' w tk k => ⟨.str _, H, I.kept k, ⟨_, rfl⟩, q⟩) hl

/-! ### a < b, a > b of alike data -/
def rLtD (K : PySem.W.Frag) : R2 := fun x y H Q => ∃ d e, Dp K H x d ∧ Dp K H y e ∧ PySem.W.alike d e = true ∧ d ≠ .none ∧ d.depth ≤ 60 ∧ Q (.bl (PySem.W.dataLt d e)) H
def rGtD (K : PySem.W.Frag) : R2 := fun x y H Q => ∃ d e, Dp K H x d ∧ Dp K H y e ∧ PySem.W.alike d e = true ∧ d ≠ .none ∧ d.depth ≤ 60 ∧ Q (.bl (PySem.W.dataLt e d)) H
theorem op_ltD {X : Cx} (hu : X.A.units + 64 < cLine) : OpR X (compareOp .Lt) (rLtD X.K) := by
  intro pins s σ H x y v u Q I rx ry h
  obtain ⟨d, e, hd, he, al, nn, dp, q⟩ := h
  obtain ⟨as, r1⟩ := Dp.reads I d x v hd rx
  obtain ⟨bs, r2⟩ := Dp.reads I e y u he ry
  exact PySem.W.lt_data r1 r2 al nn (by omega) ⟨.bl _, H, I, rfl, q⟩
theorem op_gtD {X : Cx} (hu : X.A.units + 64 < cLine) : OpR X (compareOp .Gt) (rGtD X.K) := by
  intro pins s σ H x y v u Q I rx ry h
  obtain ⟨d, e, hd, he, al, nn, dp, q⟩ := h
  obtain ⟨as, r1⟩ := Dp.reads I d x v hd rx
  obtain ⟨bs, r2⟩ := Dp.reads I e y u he ry
  exact PySem.W.gt_data r1 r2 al nn (by omega) ⟨.bl _, H, I, rfl, q⟩
end Own

set_option Elab.async false
set_option maxRecDepth 100000
/-! the law's call, from a promise that is kept where nothing is being shown -/
namespace Own
open PySem PySem.Spec PyProof.Rows L2

/-- the wish of the law: True -/
abbrev qTrue : VK := fun v _ => v = .bl true

theorem lawG {P : Program} {w : World} {K : PySem.W.Frag} {mg mb : Str → Option Value} {k : Nat} {fa a : Addr} {fd : FuncData}
    {x : Str} {sp : Sp} {s : Shared} {vs : List Value} {ns : List Int} (kk : K.In s.heap) (gm : s.heap.Ns mainGlobals mg)
    (gb : s.heap.Ns builtinsNs mb) (gbb : ∀ y : Str, y ≠ "__name__" → mb y = bootBuiltins y) (nolim : s.heap.NoLimit)
    (nog : s.gens = #[]) (at_ : s.heap.get? a = some { cls := .type "list", data := .seq vs.toArray }) (hin : IntsAre vs ns)
    (small : ns.length ≤ sizeLine) (room : Room k callerA)
    (F : ∀ g0 : Heap, K.In g0 → g0.Ns mainGlobals mg → GOk P w K mg g0 CX0 k fa fd [x] sp)
    (bd : ∀ (s : Shared) (u : Value), BindsTo s fd ⟨[u], []⟩ [(x, u)])
    (sp0 : ∀ H : Hp, Only H → SqL K H a (ns.map V.int) → sp [.ref a] H qTrue fun _ _ _ => False) :
    codeAny (model P w) callerA (.call (.ref fa) ⟨[.ref a], []⟩)
      (fun r s' => r = .ok (.ret (.bool true)) ∧ OldK s.heap s'.heap ∧ s'.os = s.os ∧ AllBare s'.gens) s := by
  have rv := vals_ints hin
  have nv : vs.length = ns.length := hin.length
  -- whatever the abstract heap says of the script, it says nothing else
  have main : ∀ H : Hp, (∀ b, H b ≠ none → b = a) → Only H → SqL K H a (ns.map V.int) → HOk P w H s.heap → (H a ≠ none → K.lookup a = none) →
      codeAny (model P w) callerA (.call (.ref fa) ⟨[.ref a], []⟩)
        (fun r s' => r = .ok (.ret (.bool true)) ∧ OldK s.heap s'.heap ∧ s'.os = s.os ∧ AllBare s'.gens) s := by
    intro H onlyA only sq hok notK
    have dictNone : ∀ {b : Addr} {o : Obj} {es : Array DictEntry} {n : Nat}, s.heap.get? b = some o → o.data = .dict es n → H b = none := by
      intro b o es n ho hd
      match hb : H b with
      | none => rfl
      | some u =>
        obtain rfl := onlyA b (by rw [hb]; exact fun z => nomatch z)
        rw [at_] at ho
        cases ho
        cases hd
    have ns0 : ∀ {b : Addr} {m : Str → Option Value}, s.heap.Ns b m → (hidT s.heap H).Ns b m := by
      rintro b m ⟨o, es, n, ho, hd, r⟩
      exact ⟨o, es, n, hidT_get ho (dictNone ho hd), hd, r⟩
    have k0 : K.In (hidT s.heap H) := by
      intro b o hb
      refine hidT_get (kk b o hb) ?_
      match hH : H b with
      | none => rfl
      | some u =>
        obtain rfl := onlyA b (by rw [hH]; exact fun z => nomatch z)
        rw [notK (by rw [hH]; exact fun z => nomatch z)] at hb
        cases hb
    have md : Mod K mg (hidT s.heap H) :=
      { kin := k0, glob := ns0 gm, blt := ⟨mb, ns0 gb, gbb⟩, nolimit := by obtain ⟨mc, n1, n2⟩ := nolim; exact ⟨mc, ns0 n1, n2⟩ }
    have e0 : Env0 P w K mg (hidT s.heap H) callerA [] s H :=
      { frames := rfl, mod := md, bs := fun b o e => of_hidT e, bsz := Nat.le_of_eq (hidT_size _ _), funs := trivial,
        frf := fun b hb => absurd (show b ∈ ([] : List Addr) from hb) (by simp), hok := hok, bare := .of_eq nog }
    have cc := (F _ k0 (ns0 gm)).run callerA [] s H ⟨[.ref a], []⟩ [.ref a] [.ref a] qTrue (fun _ _ _ => False) quiet_caller room e0
      (bd s (.ref a)) (.cons rfl .nil) (sp0 H only sq)
    refine codeAny_mono cc ?_
    intro r s' z
    match r, z with
    | .error e, z => exact z.elim
    | .ok .next, z => exact z.elim
    | .ok .brk, z => exact z.elim
    | .ok .cont, z => exact z.elim
    | .ok (.ret u), ⟨v, H', os, bare, un, hok', rr, q⟩ =>
      have q' : v = V.bl true := q
      subst q'
      obtain rfl : u = Value.bool true := rr
      refine ⟨rfl, OldK.of_keep ?_, os, bare⟩
      intro b o ho
      have nf : b ∉ frs ([] : List Env) := fun z => absurd (show b ∈ ([] : List Addr) from z) (by simp)
      match hb : H b with
      | none => exact un.keep b o ho hb nf (by simp)
      | some u =>
        rcases only b with z | ⟨ob, xs, z⟩
        · rw [hb] at z
          cases z
        · have z2 := un.frzs b ob _ z
          have p1 := (hok b _ z).1
          have p2 := (hok' b _ z2).1
          rw [ho] at p1
          cases p1
          exact p2
  match hk : K.lookup a with
  | some o =>
    have e := kk a o hk
    rw [at_] at e
    cases e
    refine main (fun _ => none) (fun b z => absurd rfl z) (fun b => .inl rfl) ?_ (fun b u z => ?_) fun z => absurd rfl z
    · refine .inr ⟨_, vs.toArray, _, hk, rfl, rfl, rfl, ?_, by simpa using rv⟩
      rw [List.size_toArray, nv]
      exact small
    · have z' : (none : Option HO) = some u := z
      cases z'
  | none =>
    let o1 : HO := .frz { cls := .type "list", data := .seq vs.toArray } (.lst (ns.map V.int))
    have ya : (fun b => if b = a then some o1 else none : Hp) a = some o1 := if_pos rfl
    refine main (fun b => if b = a then some o1 else none) (fun b z => ?_) (fun b => ?_) (.inl (.inr ⟨_, ya⟩)) (fun b u z => ?_) fun _ => hk
    · by_cases hb : b = a
      · exact hb
      · exact absurd (if_neg hb) z
    · by_cases hb : b = a
      · exact .inr ⟨_, _, if_pos hb⟩
      · exact .inl (if_neg hb)
    · by_cases hb : b = a
      · have z' := (if_pos hb).symm.trans z
        cases z'
        subst hb
        refine ⟨at_, ?_, vs, _, rv, at_⟩
        rw [List.length_map]
        exact small
      · have z' := (if_neg hb).symm.trans z
        cases z'

theorem walkG {l : PySem.W.OpenLaw} {n k : Nat} {q : Program} {loose : List Str} {XP : (Str → Option Value) → Heap → Prop}
    {YP : World → Heap → Prop} {d : DefRec} {K : Params → PySem.W.Frag} {sp : World → Sp} {x : Str}
    (hn : l.most = some n) (hn2 : n ≤ sizeLine) (hdf : d.params.defaults = []) (room : Room k callerA)
    (hY : ∀ (w : World) (h : Heap), YP w h → (K w.params).In h)
    (F : ∀ (w : World) (mg : Str → Option Value) (fa : Addr) (h : Heap), (K w.params).In h → h.Ns mainGlobals mg → mg d.name = some (.ref fa) →
      ∃ fd : FuncData, (∀ (s : Shared) (u : Value), BindsTo s fd ⟨[u], []⟩ [(x, u)]) ∧
        ∀ g0 : Heap, (K w.params).In g0 → g0.Ns mainGlobals mg → GOk l.prog w (K w.params) mg g0 CX0 k fa fd [x] (sp w))
    (sp0 : ∀ (w : World) (H : Hp) (a : Addr) (ns : List Int), ns.length ≤ n → Only H → SqL (K w.params) H a (ns.map V.int) →
      sp w [.ref a] H qTrue fun _ _ _ => False) :
    PySem.W.WalkO q loose XP YP l.row.toRowW d [] (fun f vs => PySem.call f vs) := by
  refine Att.attach_call hn hdf ?_
  intro w s0 s mg mb fa o pm cd doc a vs ns G Y ho hd hcd hmg hobj hin hlen hg
  have kk := hY w _ Y
  obtain ⟨fd, bd, FF⟩ := F w mg fa _ kk G.T.g hmg
  exact lawG kk G.T.g G.T.b G.T.builtins G.T.nolimit hg hobj hin (Nat.le_trans hlen hn2) room FF bd fun H hO hS => sp0 w H a ns hlen hO hS
end Own

set_option Elab.async false
set_option maxRecDepth 100000
/-! calls by name, readings step by step, heaps that grow -/
namespace Own
open PySem PySem.Spec PyProof.Rows L2

/-! ### a def that stands at a name -/
structure Cal (P : Program) (w : World) (K : PySem.W.Frag) (mg : Str → Option Value) (g0 : Heap) (x : Str) (k : Nat) (ps : List Str) (sp : Sp) : Prop where
  ex : ∃ (f : Addr) (fd : FuncData), GOk P w K mg g0 CX0 k f fd ps sp ∧ Binds K fd ps [] ∧ mg x = some (.ref f) ∧ PySem.W.keepIn K (.ref f) = true
/-- .. by keywords: n values, then those of the names ks -/
structure CalK (P : Program) (w : World) (K : PySem.W.Frag) (mg : Str → Option Value) (g0 : Heap) (x : Str) (k : Nat) (ps : List Str) (n : Nat) (ks : List Str) (gV : List V → List V → List V) (sp : Sp) : Prop where
  ex : ∃ (f : Addr) (fd : FuncData) (g : List Value → List Value → List Value), GOk P w K mg g0 CX0 k f fd ps sp ∧ KBn K fd ps n ks g gV ∧ mg x = some (.ref f) ∧ PySem.W.keepIn K (.ref f) = true
section
variable {X : Cx} {k n : Nat} {ps ks : List Str} {sp : Sp} {x : Str} {p pos : Pos} {e : Expr} {es : List Expr} {kws : List Keyword} {t tk : TA} {gV : List V → List V → List V}
theorem pe_c (C : Cal X.prog X.w X.K X.mg X.base x k ps sp) (qt : Quiet X.A) (room : Room k X.A) (pa : PA X (e :: es) t) (gl : Gl X x := by rfl)
    (nodbg : (x == ("__debug__" : Str)) = false := by decide)
    (st : starEach (e :: es) X.env = (false, eval e X.env) :: starEach es X.env := by rfl)
    (pl : (backTo pos (starEach es X.env)).any (·.1) = false := by rfl) :
    PE X (.Call (.Name x p) (e :: es) [] pos) (tCall sp [] E0 t) := by
  obtain ⟨f, fd, G, bd, at_, kp⟩ := C.ex
  exact pe_callG qt G room gl at_ kp bd .nil pass0 pa nodbg st pl
theorem goRunK {pins : List (Addr × Obj)} {σ : L2.St} {H : Hp} {s : Shared} {Q : VK} {us ws : List Value} {vs zs : List V}
    (C : CalK X.prog X.w X.K X.mg X.base x k ps n ks gV sp) (qt : Quiet X.A) (room : Room k X.A) (I : Inv X pins σ H s) (rv : Vals vs us) (rz : Vals zs ws)
    (l1 : vs.length = n) (l2 : zs.length = ks.length) (q : sp (gV vs zs) H Q E0) (f : Addr) (at_ : X.mg x = some (.ref f)) :
    wpAny (model X.prog X.w) X.A (call (.ref f) us (ks.zip ws)) (EP X pins σ Q) X.xe s := by
  obtain ⟨f', fd, g, G, bd, at', kp⟩ := C.ex
  rw [at_] at at'
  cases at'
  have rr := bd.rel rv rz
  have cc := G.run X.A X.stack s H ⟨us, ks.zip ws⟩ (g us ws) (gV vs zs) Q E0 qt room I.env0
    (bd.to s us ws I.kIn (rv.length.symm.trans l1) (rz.length.symm.trans l2)) rr q
  refine wpAny_call (codeAny_mono cc ?_)
  intro r s' z
  match r, z with
  | .error e, z => exact z.elim
  | .ok (.ret u), z => exact I.after z
  | .ok .next, z => exact z.elim
  | .ok .brk, z => exact z.elim
  | .ok .cont, z => exact z.elim
def tCK (n m : Nat) (sp : Sp) (gV : List V → List V → List V) (t tk : TA) : TE := fun σ H Q =>
  t σ H fun vs H1 => tk σ H1 fun zs H2 => vs.length = n ∧ zs.length = m ∧ sp (gV vs zs) H2 Q E0
/-- f(k = v, ..) -/
theorem pe_ck0 (C : CalK X.prog X.w X.K X.mg X.base x k ps 0 ks gV sp) (qt : Quiet X.A) (room : Room k X.A) (pk : PK X kws tk) (gl : Gl X x := by rfl)
    (all : (backToKw pos (keywordEach kws X.env)).all (·.1.isSome) = true := by rfl) (nm : (backToKw pos (keywordEach kws X.env)).filterMap (·.1) = ks := by rfl)
    (nodbg : (x == ("__debug__" : Str)) = false := by decide)
    (pl : ((backTo pos (starEach [] X.env)).any (·.1) || (backToKw pos (keywordEach kws X.env)).any (·.1.isNone)) = false := by rfl) :
    PE X (.Call (.Name x p) [] kws pos) (tCK 0 ks.length sp gV tNil tk) := by
  obtain ⟨f, fd, g, G, bd, at_, kp⟩ := C.ex
  constructor
  intro pins s σ H Q I q
  refine wpAny_Call_Name_kw (ld_glob I gl at_ ?_ nodbg)
  refine PySem.W.callWith_KW0 (h₀ := X.base) I.ok.mod.kin kp all ?_ pl
  refine thn (pk.run pos pins s σ H _ I q) fun ws s2 ⟨zs, H2, I2, rz, l1, l2, q2⟩ => ⟨I2.kIn, ?_⟩
  rw [nm]
  exact goRunK C qt room I2 .nil rz rfl l2 q2 f at_
/-- f(e, .., k = v, ..) -/
theorem pe_ck (C : CalK X.prog X.w X.K X.mg X.base x k ps n ks gV sp) (qt : Quiet X.A) (room : Room k X.A) (pa : PA X (e :: es) t) (pk : PK X kws tk) (gl : Gl X x := by rfl)
    (all : (backToKw pos (keywordEach kws X.env)).all (·.1.isSome) = true := by rfl) (nm : (backToKw pos (keywordEach kws X.env)).filterMap (·.1) = ks := by rfl)
    (nodbg : (x == ("__debug__" : Str)) = false := by decide) (st : starEach (e :: es) X.env = (false, eval e X.env) :: starEach es X.env := by rfl)
    (pl : ((backTo pos (starEach (e :: es) X.env)).any (·.1) || (backToKw pos (keywordEach kws X.env)).any (·.1.isNone)) = false := by rfl) :
    PE X (.Call (.Name x p) (e :: es) kws pos) (tCK n ks.length sp gV t tk) := by
  obtain ⟨f, fd, g, G, bd, at_, kp⟩ := C.ex
  constructor
  intro pins s σ H Q I q
  refine wpAny_Call_Name_kw (ld_glob I gl at_ ?_ nodbg)
  refine PySem.W.callWith_KW (h₀ := X.base) I.ok.mod.kin kp all (thn (pa.run pos pins s σ H _ I q) fun us s1 ⟨vs, H1, I1, rv, q1⟩ => ?_) pl st
  refine thn (pk.run pos pins s1 σ H1 _ I1 q1) fun ws s2 ⟨zs, H2, I2, rz, l1, l2, q2⟩ => ⟨I2.kIn, ?_⟩
  rw [nm]
  exact goRunK C qt room I2 rv rz l1 l2 q2 f at_
end

/-! ### heaps that grow; objects at M may change -/
def Ext (M : Addr → Prop) (H H' : Hp) : Prop := (∀ a xs, H a = some (.tup xs) → H' a = some (.tup xs)) ∧ ∀ a o, ¬ M a → H a = some o → H' a = some o
theorem Same.ext {M : Addr → Prop} {H H' : Hp} (s : Same H H') : Ext M H H' := ⟨fun a _ h => s a _ h, fun a o _ h => s a o h⟩
theorem Ext.refl {M : Addr → Prop} (H : Hp) : Ext M H H := ⟨fun _ _ h => h, fun _ _ _ h => h⟩
theorem Ext.trans {M : Addr → Prop} {H H1 H2 : Hp} (a : Ext M H H1) (b : Ext M H1 H2) : Ext M H H2 :=
  ⟨fun x xs h => b.1 x xs (a.1 x xs h), fun x o n h => b.2 x o n (a.2 x o n h)⟩
theorem Ext.mono {M N : Addr → Prop} {H H' : Hp} (e : Ext M H H') (h : ∀ a, M a → N a) : Ext N H H' := ⟨e.1, fun a o n => e.2 a o fun z => n (h a z)⟩
theorem Ext.same {H H' : Hp} (e : Ext (fun _ => False) H H') : Same H H' := fun a o h => e.2 a o (fun z => z) h
theorem Ext.tup {M : Addr → Prop} {H H' : Hp} (e : Ext M H H') {a : Addr} {xs : List V} (h : H a = some (.tup xs)) : H' a = some (.tup xs) := e.1 a xs h
theorem Same.upd {H : Hp} {p : Addr} {o : HO} (h : H p = none) : Same H (upd H p o) := fun a u e => by
  rw [upd_ne (ne_of_none e h)]
  exact e
theorem ext_new {M : Addr → Prop} {H : Hp} {p : Addr} {o : HO} (h : H p = none) : Ext M H (L2.upd H p o) := Same.ext (Same.upd h)
theorem Ext.upd {M : Addr → Prop} {H : Hp} {p : Addr} {o u : HO} (h : H p = some u) (m : M p) (nt : ∀ xs, u ≠ .tup xs) : Ext M H (upd H p o) := by
  refine ⟨fun a xs e => ?_, fun a v n e => ?_⟩
  · rw [upd_ne fun z => ?_]
    · exact e
    · subst z
      rw [h] at e
      cases e
      exact nt _ rfl
  · rw [upd_ne fun z => ?_]
    · exact e
    · subst z
      exact n m
theorem SqT.ext {M : Addr → Prop} {K : PySem.W.Frag} {H H' : Hp} (e : Ext M H H') {a : Addr} {xs : List V} (h : SqT K H a xs) (m : ¬ M a) : SqT K H' a xs := by
  rcases h with (h | ⟨o, h⟩) | h
  · exact .inl (.inl (e.1 _ _ h))
  · exact .inl (.inr ⟨o, e.2 _ _ m h⟩)
  · exact .inr h
theorem SqL.ext {M : Addr → Prop} {K : PySem.W.Frag} {H H' : Hp} (e : Ext M H H') {a : Addr} {xs : List V} (h : SqL K H a xs) (m : ¬ M a) : SqL K H' a xs := by
  rcases h with (h | ⟨o, h⟩) | h
  · exact .inl (.inl (e.2 _ _ m h))
  · exact .inl (.inr ⟨o, e.2 _ _ m h⟩)
  · exact .inr h

/-! ### the readings, one step at a time -/
section
variable {t u : TS} {D : Ends} {σ : L2.St} {H : Hp} {te ta tb : TE} {i : Nat} {Q : VK} {v : V} {tt tu : TT} {QB : Bool → Hp → Prop} {r : R2} {tl tr : TA} {QA : List V → Hp → Prop}
theorem k_seq (h : t { D with nx := u D } σ H) : tSeq t u D σ H := h
theorem k_asg {g : TG} (h : te σ H fun x H1 => g x σ H1 D.nx) : tAsg te g D σ H := h
theorem k_gN {QS : L2.St → Hp → Prop} (h : QS (σ.set i (some v)) H) : gName i v σ H QS := h
theorem k_gS {QS : L2.St → Hp → Prop} {ts : TSet} (h : ta σ H fun o H1 => tb σ H1 fun x H2 => ts o x v H2 fun H3 => QS σ H3) : gSub ta tb ts v σ H QS := h
theorem k_gNil {QS : L2.St → Hp → Prop} (h : QS σ H) : gNil [] σ H QS := ⟨rfl, h⟩
theorem k_gCons {QS : L2.St → Hp → Prop} {g : TG} {gs : TGs} {vs : List V} (h : g v σ H fun σ' H' => gs vs σ' H' QS) : gCons g gs (v :: vs) σ H QS := ⟨v, vs, rfl, h⟩
theorem k_gTup {QS : L2.St → Hp → Prop} {K : PySem.W.Frag} {n : Nat} {gs : TGs} {a : Addr} {xs : List V} (e : SqT K H a xs) (l : xs.length = n) (h : gs xs σ H QS) : gTup K n gs (.ref a) σ H QS := ⟨a, xs, rfl, e, l, h⟩
theorem k_ret (h : te σ H D.rt) : tRet te D σ H := h
theorem k_drop (h : te σ H fun _ H' => D.nx σ H') : tDrop te D σ H := h
theorem k_next (h : D.nx σ H) : tNext D σ H := h
theorem k_ifS (h : tt σ H fun b H' => if b = true then t D σ H' else u D σ H') : tIfS tt t u D σ H := h
theorem k_var (e : σ[i]? = some (some v)) (h : Q v H) : tVar i σ H Q := ⟨v, e, h⟩
theorem k_c (h : Q v H) : tC v σ H Q := h
theorem k_op (h : ta σ H fun x H1 => tb σ H1 fun y H2 => r x y H2 Q) : tOp r ta tb σ H Q := h
theorem k_un {ru : V → Hp → VK → Prop} (h : ta σ H fun x H1 => ru x H1 Q) : tUn ru ta σ H Q := h
theorem k_test (h : te σ H fun x H' => ∃ k, x = .bl k ∧ QB k H') : tTest te σ H QB := h
theorem k_B (h : te σ H fun x H' => ∃ k, x = .bl k ∧ QB k H') : tB te σ H QB := h
theorem k_and (h : tt σ H fun c H1 => if c = true then tu σ H1 QB else QB false H1) : tAnd tt tu σ H QB := h
theorem k_or (h : tt σ H fun c H1 => if c = true then QB true H1 else tu σ H1 QB) : tOr tt tu σ H QB := h
theorem k_not (h : tt σ H fun c H1 => QB (!c) H1) : tNot tt σ H QB := h
theorem k_andV (h : ta σ H fun x H1 => ∃ c, x = .bl c ∧ if c = true then tb σ H1 Q else Q (.bl false) H1) : tAndV ta tb σ H Q := h
theorem k_orV (h : ta σ H fun x H1 => ∃ c, x = .bl c ∧ if c = true then Q (.bl true) H1 else tb σ H1 Q) : tOrV ta tb σ H Q := h
theorem k_notV (h : ta σ H fun x H1 => ∃ c, x = .bl c ∧ Q (.bl (!c)) H1) : tNotV ta σ H Q := h
theorem k_if (h : tt σ H fun c H1 => if c = true then ta σ H1 Q else tb σ H1 Q) : tIf tt ta tb σ H Q := h
theorem k_nil (h : QA [] H) : tNil σ H QA := h
theorem k_cons (h : te σ H fun x H1 => tl σ H1 fun xs H2 => QA (x :: xs) H2) : tCons te tl σ H QA := h
theorem k_tup (h : tl σ H fun xs H1 => xs.length ≤ sizeLine ∧ ∀ p, H1 p = none → Q (.ref p) (upd H1 p (.tup xs))) : tTup tl σ H Q := h
theorem k_lst (h : tl σ H fun xs H1 => xs.length ≤ sizeLine ∧ ∀ p, H1 p = none → Q (.ref p) (upd H1 p (.lst xs))) : tLst tl σ H Q := h
theorem k_call {sp : Sp} {dvs : List V} {E : XK} (h : tl σ H fun vs H1 => sp (vs ++ dvs) H1 Q E) : tCall sp dvs E tl σ H Q := h
theorem k_cb {rc : List V → Hp → VK → Prop} (h : tl σ H fun vs H1 => rc vs H1 Q) : tCB rc tl σ H Q := h
theorem k_ck {n m : Nat} {sp : Sp} {gV : List V → List V → List V} {tk : TA} (h : tl σ H fun vs H1 => tk σ H1 fun zs H2 => vs.length = n ∧ zs.length = m ∧ sp (gV vs zs) H2 Q E0) : tCK n m sp gV tl tk σ H Q := h
theorem k_par {j : Nat} (h : tl σ H fun vs H1 => ∃ v w, vs = [v, w] ∧ D.nx ((σ.set i (some v)).set j (some w)) H1) : tPar i j tl D σ H := h
theorem k_par1 {j : Nat} {v w : V} (h : D.nx ((σ.set i (some v)).set j (some w)) H) : ∃ v' w', [v, w] = [v', w'] ∧ D.nx ((σ.set i (some v')).set j (some w')) H := ⟨v, w, rfl, h⟩
theorem k_tr {b : Bool} {R : Bool → Prop} (h : R b) : ∃ k, V.bl b = .bl k ∧ R k := ⟨b, rfl, h⟩
theorem k_ite {b : Bool} {A B : Prop} (h1 : b = true → A) (h2 : b = false → B) : if b = true then A else B := by
  cases b with
  | true => exact iteT (h1 rfl)
  | false => exact iteF (h2 rfl)
theorem k_iteD {c : Prop} [Decidable c] {A B : Prop} (h1 : c → A) (h2 : ¬ c → B) : if decide c = true then A else B :=
  k_ite (fun z => h1 (of_decide_eq_true z)) fun z => h2 (of_decide_eq_false z)
theorem k_for {wi : TI} {g : TG} {tb : TS} (h : wi σ H fun J H1 => ∃ W : Nat → Nat → L2.St → Hp → Prop, (∃ m, W 0 m σ H1) ∧ ∀ i m σ H, W i m σ H →
    (J.stop i H ∧ D.nx σ H) ∨ (J.go i H ∧ ∃ N : L2.St → Hp → Prop, (∀ σ' H', N σ' H' → ∃ m', m' < m ∧ W (i + 1) m' σ' H') ∧ ∀ x H', J.yld i H x H' → g x σ H' fun σ2 H2 => tb { D with nx := N, ct := N, bk := D.nx } σ2 H2)) : tFor wi g tb D σ H := h
theorem k_iL {K : PySem.W.Frag} {R : It → Hp → Prop} (h : te σ H fun x H1 => ∃ a, x = .ref a ∧ (∃ xs, SqL K H1 a xs) ∧ R (Itl K a) H1) : iList K te σ H R := h
theorem k_iT {K : PySem.W.Frag} {R : It → Hp → Prop} (h : te σ H fun x H1 => ∃ a, x = .ref a ∧ (∃ xs, SqT K H1 a xs) ∧ R (Itt K a) H1) : iTup K te σ H R := h
theorem k_iR1 {R : It → Hp → Prop} (h : tl σ H fun vs H1 => ∃ j, vs = [.int j] ∧ -(2 ^ 62) ≤ j ∧ j < 2 ^ 62 ∧ R (Itr 0 j.toNat) H1) : iRng1 tl σ H R := h
theorem k_iR1i {R : It → Hp → Prop} {j : Int} (l : -(2 ^ 62) ≤ j ∧ j < 2 ^ 62) (h : R (Itr 0 j.toNat) H) : ∃ i, [V.int j] = [.int i] ∧ -(2 ^ 62) ≤ i ∧ i < 2 ^ 62 ∧ R (Itr 0 i.toNat) H := ⟨j, rfl, l.1, l.2, h⟩
theorem k_ble {n m : Nat} (h : Nat.ble n m = true) : n ≤ m := Nat.le_of_ble_eq_true h
theorem k_sz {n : Nat} (h : Nat.ble n 100000 = true) : n ≤ sizeLine := Nat.le_trans (Nat.le_of_ble_eq_true h) (by decide)
theorem k_rI0 {g : Int → Int → V} {i j : Int} (h : Q (g i j) H) : rI0 g (.int i) (.int j) H Q := ⟨i, j, rfl, rfl, h⟩
theorem k_rI {C : Int → Int → Prop} {g : Int → Int → V} {i j : Int} (c : C i j) (h : Q (g i j) H) : rI C g (.int i) (.int j) H Q := ⟨i, j, rfl, rfl, c, h⟩
theorem k_rU {g : Int → V} {i : Int} (h : Q (g i) H) : rU g (.int i) H Q := ⟨i, rfl, h⟩
theorem k_eq {x y : V} (s : scal x y = true) (h : Q (.bl (decide (x = y))) H) : rEq x y H Q := ⟨s, h⟩
theorem k_ne {x y : V} (s : scal x y = true) (h : Q (.bl (!decide (x = y))) H) : rNe x y H Q := ⟨s, h⟩
variable {K : PySem.W.Frag} {a : Addr} {xs : List V}
theorem k_setL {QH : Hp → Prop} {n : Int} {j : Nat} (e : H a = some (.lst xs)) (f : ixN xs.length n = some j) (h : QH (upd H a (.lst (xs.set j v)))) : rSetL (.ref a) (.int n) v H QH := ⟨a, xs, n, j, rfl, rfl, e, f, h⟩
theorem k_bm0 {T : String} {rm : V → List V → Hp → VK → Prop} (h : te σ H fun x H1 => tyV K T x H1 ∧ rm x [] H1 Q) : tBM0 K T rm te σ H Q := h
theorem k_bm {T : String} {rm : V → List V → Hp → VK → Prop} (h : te σ H fun x H1 => tyV K T x H1 ∧ tl σ H1 fun xs H2 => rm x xs H2 Q) : tBM K T rm te tl σ H Q := h
theorem k_tyL (e : H a = some (.lst xs)) : tyV K "list" (.ref a) H := .inl ⟨rfl, _, SqL.of e⟩
theorem k_pop (e : H a = some (.lst xs)) (l : xs[xs.length - 1]? = some v) (h : Q v (upd H a (.lst xs.dropLast))) : rPop (.ref a) [] H Q := ⟨a, xs, v, rfl, rfl, e, l, h⟩
theorem k_app (e : H a = some (.lst xs)) (l : xs.length < sizeLine) (h : Q .non (upd H a (.lst (xs ++ [v])))) : rAppend (.ref a) [v] H Q := ⟨a, xs, v, rfl, rfl, e, l, h⟩
theorem k_ixL {n : Int} (e : SqL K H a xs) (f : atI xs n = some v) (h : Q v H) : rIxL K (.ref a) (.int n) H Q := ⟨a, xs, n, v, rfl, rfl, e, f, h⟩
theorem k_ixT {n : Int} (e : SqT K H a xs) (f : atI xs n = some v) (h : Q v H) : rIxT K (.ref a) (.int n) H Q := ⟨a, xs, n, v, rfl, rfl, e, f, h⟩
end
section
variable {X : Cx} {K : PySem.W.Frag} {H : Hp} {Q : VK} {a : Addr} {xs : List V} {v : V}
def rLen (K : PySem.W.Frag) : List V → Hp → VK → Prop := fun xs H Q => ∃ p ys, xs = [.ref p] ∧ (SqL K H p ys ∨ SqT K H p ys) ∧ Q (.int ys.length) H
theorem c_len : CallR X (.builtin "len") (rLen X.K) := call_len_seq
theorem k_lenL (e : SqL K H a xs) (h : Q (.int xs.length) H) : rLen K [.ref a] H Q := ⟨a, xs, rfl, .inl e, h⟩
theorem k_lenT (e : SqT K H a xs) (h : Q (.int xs.length) H) : rLen K [.ref a] H Q := ⟨a, xs, rfl, .inr e, h⟩
def rList (K : PySem.W.Frag) : List V → Hp → VK → Prop := fun xs H Q => ∃ p ys, xs = [.ref p] ∧ (SqL K H p ys ∨ SqT K H p ys) ∧ ∀ l, H l = none → Q (.ref l) (upd H l (.lst ys))
theorem c_list : CallR X (.type "list") (rList X.K) := call_list_of
theorem k_listL (e : SqL K H a xs) (h : ∀ l, H l = none → Q (.ref l) (upd H l (.lst xs))) : rList K [.ref a] H Q := ⟨a, xs, rfl, .inl e, h⟩
theorem k_listT (e : SqT K H a xs) (h : ∀ l, H l = none → Q (.ref l) (upd H l (.lst xs))) : rList K [.ref a] H Q := ⟨a, xs, rfl, .inr e, h⟩
def rMax : List V → Hp → VK → Prop := fun xs H Q => ∃ i j, xs = [.int i, .int j] ∧ Q (.int (if j > i then j else i)) H
theorem c_max (hc : X.calm = true) : CallR X (.builtin "max") rMax := call_max2 hc
theorem k_max {i j : Int} (h : Q (.int (if j > i then j else i)) H) : rMax [.int i, .int j] H Q := ⟨i, j, rfl, h⟩
theorem k_ixqL {n : Int} (e : SqL K H a xs) (f : atI xs n = some v) (h : Q v H) : rIx K (.ref a) (.int n) H Q := .inl ⟨a, xs, n, v, rfl, rfl, e, f, h⟩
theorem k_ixqT {n : Int} (e : SqT K H a xs) (f : atI xs n = some v) (h : Q v H) : rIx K (.ref a) (.int n) H Q := .inr (.inl ⟨a, xs, n, v, rfl, rfl, e, f, h⟩)
theorem k_slL {lo hi : Option Int} (e : SqL K H a xs) (h : ∀ p, H p = none → Q (.ref p) (upd H p (.lst (cutV xs lo hi)))) : rSlL K (.ref a) lo hi H Q := ⟨a, xs, rfl, e, h⟩
theorem k_ltT {b : Addr} {ns ms : List Int} (e : SqT K H a (ns.map V.int)) (f : SqT K H b (ms.map V.int)) (h : Q (.bl (HT.lexLt ns ms)) H) : rLtT K (.ref a) (.ref b) H Q := ⟨a, b, ns, ms, rfl, rfl, e, f, h⟩
def rIsBb : R2 := rIsB
theorem k_isB {x y : Bool} (h : Q (.bl (decide (x = y))) H) : rIsB (.bl x) (.bl y) H Q := ⟨x, y, rfl, rfl, h⟩
theorem k_isN {x : V} {r : V → V → Hp → VK → Prop} (h : r x .non H Q) : r x .non H Q := h
variable {σ : L2.St} {te : TE} {tl th : TO} {tl' : TO} {QO : Option Int → Hp → Prop}
theorem k_sl {r : V → Option Int → Option Int → Hp → VK → Prop} (h : te σ H fun x H1 => tl σ H1 fun l H2 => th σ H2 fun u H3 => r x l u H3 Q) : tSl r te tl th σ H Q := h
theorem k_noP (h : QO none H) : tNoPart σ H QO := h
theorem k_part (h : te σ H fun x H1 => ∃ i, x = .int i ∧ QO (some i) H1) : tPart te σ H QO := h
theorem k_partI {R : Int → Prop} {i : Int} (h : R i) : ∃ j, V.int i = .int j ∧ R j := ⟨i, rfl, h⟩
theorem k_revL (h : te σ H fun x H1 => ∃ a xs, x = .ref a ∧ SqL K H1 a xs ∧ ∀ p, H1 p = none → Q (.ref p) (upd H1 p (.lst xs.reverse))) : tRevL K te σ H Q := h
/-- a > b, tuples of ints -/
def rGtT (K : PySem.W.Frag) : R2 := fun x y H Q => ∃ a b ns ms, x = .ref a ∧ y = .ref b ∧ SqT K H a (ns.map V.int) ∧ SqT K H b (ms.map V.int) ∧ Q (.bl (HT.lexLt ms ns)) H
theorem k_gtT {b : Addr} {ns ms : List Int} (e : SqT K H a (ns.map V.int)) (f : SqT K H b (ms.map V.int)) (h : Q (.bl (HT.lexLt ms ns)) H) : rGtT K (.ref a) (.ref b) H Q := ⟨a, b, ns, ms, rfl, rfl, e, f, h⟩
theorem dpAll_ints {K : PySem.W.Frag} {H : Hp} : ∀ xs : List Int, DpAll K H (xs.map V.int) (xs.map PyData.int)
  | [] => .nil
  | x :: xs => .cons (.int x) (dpAll_ints xs)
theorem alike_ints : ∀ xs ys : List Int, PySem.W.alikeAll (xs.map PyData.int) (ys.map PyData.int) = true
  | [], ys => by cases ys <;> rfl
  | _ :: _, [] => rfl
  | x :: xs, y :: ys => by
    show (true && _) = true
    rw [alike_ints xs ys]
    rfl
theorem depth_ints : ∀ xs : List Int, PyData.depthAll (xs.map PyData.int) = 0
  | [] => rfl
  | x :: xs => by
    show max 0 (PyData.depthAll (xs.map PyData.int)) = 0
    rw [depth_ints xs]
    rfl
theorem lt_ints : ∀ xs ys : List Int, PySem.W.dataLt (.tuple (xs.map PyData.int)) (.tuple (ys.map PyData.int)) = HT.lexLt xs ys
  | [], [] => by decide
  | [], y :: ys => by
    show PyProof.Rows.lexLt itemOrd (PySem.W.keyToksAll []) (PySem.W.keyToksAll (PyData.int y :: _)) = true
    rw [PySem.W.toks_all_cons]
    exact (lex_diff (O := itemOrd) (by decide)).trans (by decide)
  | x :: xs, [] => by
    show PyProof.Rows.lexLt itemOrd (PySem.W.keyToksAll (PyData.int x :: _)) (PySem.W.keyToksAll []) = false
    rw [PySem.W.toks_all_cons]
    exact (lex_diff (O := itemOrd) (by decide)).trans (by decide)
  | x :: xs, y :: ys => by
    show PyProof.Rows.lexLt itemOrd (PySem.W.keyToksAll (PyData.int x :: _)) (PySem.W.keyToksAll (PyData.int y :: _)) = (if x = y then HT.lexLt xs ys else decide (x < y))
    by_cases e : x = y
    · subst e
      rw [if_pos rfl, PySem.W.dataLt_all_yes rfl (by simp [PyData.eqv])]
      exact lt_ints xs ys
    · rw [if_neg e, PySem.W.dataLt_all_no rfl (by simpa [PyData.eqv] using e)]
      exact PySem.W.dataLt_int x y
theorem op_gtT {X : Cx} (hu : X.A.units + 64 < cLine) : OpR X (compareOp .Gt) (rGtT X.K) := by
  intro pins s σ H x y v u Q I rx ry h
  obtain ⟨a, b, ns, ms, rfl, rfl, ha, hb, q⟩ := h
  obtain ⟨as, r1⟩ := Dp.reads I (.tuple (ns.map PyData.int)) (.ref a) v (.tup ha (dpAll_ints ns)) rx
  obtain ⟨bs, r2⟩ := Dp.reads I (.tuple (ms.map PyData.int)) (.ref b) u (.tup hb (dpAll_ints ms)) ry
  refine PySem.W.gt_data r1 r2 (alike_ints ns ms) (fun z => by cases z) ?_ ⟨.bl _, H, I, rfl, ?_⟩
  · show X.A.units + min (PyData.depthAll (ns.map PyData.int) + 1) _ < cLine
    rw [depth_ints]
    omega
  · rw [lt_ints]
    exact q
end
theorem atI_head {α : Type} {x : α} {xs : List α} : atI (x :: xs) 0 = some x := atI_nat (j := 0) (xs := x :: xs) rfl
/-! what is known is known behind a step -/
theorem lk_new {H : Hp} {a p : Addr} {o u : HO} (h : H a = some u) (n : H p = none) : upd H p o a = some u := (upd_ne (ne_of_none h n)).trans h
theorem lk_ext {M : Addr → Prop} {H H' : Hp} {a : Addr} {xs : List V} (e : Ext M H H') (h : H a = some (.tup xs)) : H' a = some (.tup xs) := e.1 a xs h
theorem lk_same {H H' : Hp} {a : Addr} {o : HO} (e : Same H H') (h : H a = some o) : H' a = some o := e a o h
end Own

set_option Elab.async false
set_option maxRecDepth 100000
/-! instances of own classes: in, len, methods by keywords, errors with fields -/
namespace Own
open PySem PySem.Spec PyProof.Rows L2

theorem k_yes {σ : L2.St} {H : Hp} {A B : Hp → Prop} (h : A H) : tYes σ H (fun b H' => if b = true then A H' else B H') := by
  show (if true = true then A H else B H)
  rw [if_pos rfl]
  exact h
theorem k_szL {n : Nat} (h : n < 100000) : n < sizeLine := by
  rw [sizeLine_eq]
  omega
section
variable {X : Cx} {Z : CXT} {k : Nat} {C f : Addr} {sp : Sp} {E : XK}
/-- x in o, o an instance whose class has its own __contains__ -/
theorem own_in {pins : List (Addr × Obj)} {σ : L2.St} {H : Hp} {s : Shared} {a dx : Addr} {fs : List (Str × V)} {x : V} {u : Value} {Q : Bool → Hp → Prop}
    (hs : PySem.W.findIn X.K (.ref C) "__contains__" = some (some (.ref f))) (hf : PySem.W.typeIn X.K (.ref f) = some (.type "function"))
    (F : FnR X.prog X.w X.K X.mg X.base Z k f sp) (room : Room k X.A) (px : Passes Z X E) (I : Inv X pins σ H s) (ea : H a = some (.ins C dx fs)) (rx : RelV x u)
    (h : sp [.ref a, x] H (fun v H' => ∃ b, v = .bl b ∧ Q b H') E) :
    wpAny (model X.prog X.w) X.A (contains (.ref a) u) (TP X pins σ Q) X.xe s := by
  obtain ⟨mA, O, _, _, _, _⟩ := ins_get I.hok ea
  obtain ⟨od, J, _⟩ := O.look
  unfold contains
  refine wpAny_holding ?_
  rw [stdlibNamesSay?_ref]
  dsimp only
  refine wpAny_bind (m := specialOf (.ref a) "__contains__") ?_
  unfold specialOf
  refine wpAny_bind (J.type.here ((PySem.W.looks_findIn I.kIn hs).here ?_))
  rw [show ((some (Value.ref f) : Option Value) == some Value.none) = false from rfl]
  rw [if_neg Bool.false_ne_true]
  refine wpAny_bind ?_
  unfold callSpecialUnlessNone? specialOf
  refine wpAny_bind (wpAny_bind (J.type.here ((PySem.W.looks_findIn I.kIn hs).here ?_)))
  dsimp only
  refine wpAny_holding (wpAny_bind ((PySem.W.bind_fn I.kIn _ hf).here ?_))
  rw [show ((Value.ref f) == Value.none) = false from rfl]
  rw [if_neg Bool.false_ne_true]
  refine wpAny_bind (wpAny_mono (wpAny_call (run_fnR (us := [.ref a, u]) (vs := [.ref a, x]) F room px I (.cons rfl (.cons rx .nil)) h)) (fun r s' z => ?_) fun _ _ z => z)
  obtain ⟨v, H', I', rv, b, rfl, q⟩ := z
  cases rv
  exact wpAny_pure (wpAny_truthy_bool ⟨H', I', q⟩)
def rInO (C : Addr) (sp : Sp) (E : XK) (g : Bool → Bool) : R2 := fun x y H Q => ∃ a dx fs, y = .ref a ∧ H a = some (.ins C dx fs) ∧ sp [.ref a, x] H (fun v H' => ∃ b, v = .bl b ∧ Q (.bl (g b)) H') E
theorem op_inO (hs : PySem.W.findIn X.K (.ref C) "__contains__" = some (some (.ref f))) (hf : PySem.W.typeIn X.K (.ref f) = some (.type "function"))
    (F : FnR X.prog X.w X.K X.mg X.base Z k f sp) (room : Room k X.A) (px : Passes Z X E) : OpR X (compareOp .In) (rInO C sp E fun b => b) := by
  intro pins s σ H x y v u Q I rx ry h
  obtain ⟨a, dx, fs, rfl, ea, q⟩ := h
  obtain rfl : u = Value.ref a := ry
  refine wpAny_bind (wpAny_mono (own_in (Q := fun b H' => Q (.bl b) H') hs hf F room px I ea rx q) (fun b s' z => ?_) fun _ _ z => z)
  obtain ⟨H', I', q'⟩ := z
  exact wpAny_pure ⟨.bl b, H', I', rfl, q'⟩
theorem op_notInO (hs : PySem.W.findIn X.K (.ref C) "__contains__" = some (some (.ref f))) (hf : PySem.W.typeIn X.K (.ref f) = some (.type "function"))
    (F : FnR X.prog X.w X.K X.mg X.base Z k f sp) (room : Room k X.A) (px : Passes Z X E) : OpR X (compareOp .NotIn) (rInO C sp E fun b => !b) := by
  intro pins s σ H x y v u Q I rx ry h
  obtain ⟨a, dx, fs, rfl, ea, q⟩ := h
  obtain rfl : u = Value.ref a := ry
  refine wpAny_bind (wpAny_mono (own_in (Q := fun b H' => Q (.bl (!b)) H') hs hf F room px I ea rx q) (fun b s' z => ?_) fun _ _ z => z)
  obtain ⟨H', I', q'⟩ := z
  exact wpAny_pure ⟨.bl (!b), H', I', rfl, q'⟩

/-- a callee, run below the running body -/
theorem atRun {pins : List (Addr × Obj)} {σ : L2.St} {H : Hp} {s : Shared} {B : Around} {Q : VK} {us : List Value} {vs : List V} (F : FnR X.prog X.w X.K X.mg X.base Z k f sp) (room : Room k B)
    (e0 : Env0 X.prog X.w X.K X.mg X.base B X.stack s H) (px : Passes Z X E) (I : Inv X pins σ H s) (rv : Vals vs us) (q : sp vs H Q E) :
    wpAny (model X.prog X.w) B (call (.ref f) us) (EP X pins σ Q) X.xe s := by
  refine wpAny_call (codeAny_mono (F B X.stack s H us vs Q E room e0 rv q) ?_)
  intro r s' z
  match r, z with
  | .error e, z => exact px pins σ H s e s' I z
  | .ok (.ret u), z => exact I.after z
  | .ok .next, z => exact z.elim
  | .ok .brk, z => exact z.elim
  | .ok .cont, z => exact z.elim
/-- len(o), o an instance whose class has its own __len__ -/
def rLenO (C : Addr) (sp : Sp) (E : XK) : List V → Hp → VK → Prop := fun xs H Q => ∃ a dx fs, xs = [.ref a] ∧ H a = some (.ins C dx fs) ∧
  sp [.ref a] H (fun v H' => ∃ n : Nat, v = .int n ∧ n ≤ sizeLine ∧ Q (.int n) H') E
theorem call_lenO (hs : PySem.W.findIn X.K (.ref C) "__len__" = some (some (.ref f))) (hf : PySem.W.typeIn X.K (.ref f) = some (.type "function"))
    (F : FnR X.prog X.w X.K X.mg X.base Z k f sp) (room : Room (k + 1) X.A) (px : Passes Z X E) : CallR X (.builtin "len") (rLenO C sp E) := by
  intro pins s σ H xs us Q I r h
  obtain ⟨a, dx, fs, rfl, ea, q⟩ := h
  obtain ⟨u, rfl, ru⟩ := r.one
  obtain rfl : u = Value.ref a := ru
  obtain ⟨mA, O, _, _, _, _⟩ := ins_get I.hok ea
  obtain ⟨od, J, _⟩ := O.look
  refine Calls.call_function_entry kind_len plain_len entry_len (args_len1 _) ?_
  unfold Builtin.«len»
  refine wpAny_bind (m := oneArg "len" _) (wpAny_pure ?_)
  refine wpAny_bind (m := callSpecial? (.ref a) (Str.ofString "__len__")) (PySem.W.special_fn (args := []) I.kIn J hs hf (wpAny_mono (atRun (us := [.ref a]) (vs := [.ref a]) F room.in1 I.env0.in1 px I (.cons rfl .nil) q) (fun r s' z => ?_) fun _ _ z => z))
  obtain ⟨v, H', I', rv, n, rfl, hn, qn⟩ := z
  obtain ⟨t, rfl⟩ := rv
  rw [sizeLine_eq] at hn
  refine wpAny_bind (wpAny_holding (wpAny_pure ?_))
  refine wpAny_bind (wpAny_letGo ?_)
  show wpAny _ _ (if (n : Int) < 0 then _ else _) _ _ _
  rw [if_neg (by omega)]
  show wpAny _ _ (if (n : Int) ≥ 2 ^ 63 then _ else _) _ _ _
  rw [if_neg (by omega)]
  exact wpAny_bind (wpAny_mkInt (wpAny_pure ⟨_, rfl, .int n, H', I'.tok _, ⟨_, rfl⟩, qn⟩))
end

/-! ### methods by keywords, and such as may raise -/
section
variable {X : Cx} {Z : CXT} {k n : Nat} {C f : Addr} {fd : FuncData} {ps ks : List Str} {sp : Sp} {m : Str} {pos apos : Pos} {o e : Expr} {es : List Expr} {kws : List Keyword} {to : TE} {t tk : TA}
  {g : List Value → List Value → List Value} {gV : List V → List V → List V} {E : L2.St → XK} {pl : Sem Bool}
/-- o.m(e, .., k = v, ..): n positional values with self, mm keywords -/
def tMK (C : Addr) (m : Str) (n mm : Nat) (sp : Sp) (gV : List V → List V → List V) (E : L2.St → XK) (to : TE) (t tk : TA) : TE := fun σ H Q =>
  to σ H fun x H1 => ∃ a dx fs, x = .ref a ∧ H1 a = some (.ins C dx fs) ∧ fs.lookup m = none ∧ t σ H1 fun vs H2 => tk σ H2 fun zs H3 => (V.ref a :: vs).length = n ∧ zs.length = mm ∧ sp (gV (.ref a :: vs) zs) H3 Q (E σ)
theorem runK {pins : List (Addr × Obj)} {σ : L2.St} {H : Hp} {s : Shared} {Q : VK} {us ws : List Value} {vs zs : List V} (F : FnOk X.prog X.w X.K X.mg X.base Z k f fd ps sp) (room : Room k X.A) (kb : KBn X.K fd ps n ks g gV)
    (px : PassesAt Z X σ (E σ)) (I : Inv X pins σ H s) (rv : Vals vs us) (rz : Vals zs ws) (l1 : vs.length = n) (l2 : zs.length = ks.length) (q : sp (gV vs zs) H Q (E σ)) :
    wpAny (model X.prog X.w) X.A (call (.ref f) us (ks.zip ws)) (EP X pins σ Q) X.xe s := by
  have rr := kb.rel rv rz
  have cc := F.run X.A X.stack s H ⟨us, ks.zip ws⟩ (g us ws) (gV vs zs) Q (E σ) room I.env0 (kb.to s us ws I.kIn (rv.length.symm.trans l1) (rz.length.symm.trans l2)) rr q
  refine wpAny_call (codeAny_mono cc ?_)
  intro r s' z
  match r, z with
  | .error e, z => exact px pins H s e s' I z
  | .ok (.ret u), z => exact I.after z
  | .ok .next, z => exact z.elim
  | .ok .brk, z => exact z.elim
  | .ok .cont, z => exact z.elim
/-- with some positional arguments -/
theorem pe_mk1 (he : PE X o to) (c : Cls X.K C) (hm : Meth X.K C m f) (F : FnOk X.prog X.w X.K X.mg X.base Z k f fd ps sp) (room : Room k X.A) (kb : KBn X.K fd ps n ks g gV) (px : ∀ σ, PassesAt Z X σ (E σ))
    (pa : PA X (e :: es) t) (pk : PK X kws tk) (all : (backToKw pos (keywordEach kws X.env)).all (·.1.isSome) = true := by rfl) (nm : (backToKw pos (keywordEach kws X.env)).filterMap (·.1) = ks := by rfl)
    (st : starEach (e :: es) X.env = (false, eval e X.env) :: starEach es X.env := by rfl)
    (pn : ((backTo pos (starEach (e :: es) X.env)).any (·.1) || (backToKw pos (keywordEach kws X.env)).any (·.1.isNone)) = false := by rfl)
    (form : eval (.Call (.Attribute o m apos) (e :: es) kws pos) X.env = (do
      let ov ← eval o X.env
      standAt apos.atName
      let (f, first) ← holding [ov] (getMethod ov m pl)
      callWith pos f first (backTo pos (starEach (e :: es) X.env)) (backToKw pos (keywordEach kws X.env))) := by rfl) :
    PE X (.Call (.Attribute o m apos) (e :: es) kws pos) (tMK C m n ks.length sp gV E to t tk) := by
  constructor
  intro pins s σ H Q I h
  refine PySem.W.methodCall_KW (pl := pl) (thn (he.run pins s σ H _ I h) fun u s1 ⟨x, H1, I1, rx, a, dx, fs, ex, ea, l, q⟩ => ?_) form
  subst ex
  obtain rfl : u = Value.ref a := rx
  refine getmeth_ok I1 ea c hm l (PySem.W.callWith_KW (first := [.ref a]) (h₀ := X.base) I.ok.mod.kin hm.kp all (thn (pa.run pos pins s1 σ H1 _ I1 q) fun us s2 ⟨vs, H2, I2, rv, q2⟩ => ?_) pn st)
  refine thn (pk.run pos pins s2 σ H2 _ I2 q2) fun ws s3 ⟨zs, H3, I3, rz, l1, l2, q3⟩ => ⟨I3.kIn, ?_⟩
  rw [nm]
  exact runK (us := .ref a :: us) (vs := .ref a :: vs) F room kb (px σ) I3 (.cons rfl rv) rz l1 l2 q3
/-- keywords alone -/
theorem pe_mk0 (he : PE X o to) (c : Cls X.K C) (hm : Meth X.K C m f) (F : FnOk X.prog X.w X.K X.mg X.base Z k f fd ps sp) (room : Room k X.A) (kb : KBn X.K fd ps n ks g gV) (px : ∀ σ, PassesAt Z X σ (E σ))
    (pk : PK X kws tk) (all : (backToKw pos (keywordEach kws X.env)).all (·.1.isSome) = true := by rfl) (nm : (backToKw pos (keywordEach kws X.env)).filterMap (·.1) = ks := by rfl)
    (pn : ((backTo pos (starEach [] X.env)).any (·.1) || (backToKw pos (keywordEach kws X.env)).any (·.1.isNone)) = false := by rfl)
    (form : eval (.Call (.Attribute o m apos) [] kws pos) X.env = (do
      let ov ← eval o X.env
      standAt apos.atName
      let (f, first) ← holding [ov] (getMethod ov m pl)
      callWith pos f first (backTo pos (starEach [] X.env)) (backToKw pos (keywordEach kws X.env))) := by rfl) :
    PE X (.Call (.Attribute o m apos) [] kws pos) (tMK C m n ks.length sp gV E to tNil tk) := by
  constructor
  intro pins s σ H Q I h
  refine PySem.W.methodCall_KW (pl := pl) (thn (he.run pins s σ H _ I h) fun u s1 ⟨x, H1, I1, rx, a, dx, fs, ex, ea, l, q⟩ => ?_) form
  subst ex
  obtain rfl : u = Value.ref a := rx
  refine getmeth_ok I1 ea c hm l (PySem.W.callWith_KW0 (first := [.ref a]) (h₀ := X.base) I.ok.mod.kin hm.kp all ?_ pn)
  refine thn (pk.run pos pins s1 σ H1 _ I1 q) fun ws s3 ⟨zs, H3, I3, rz, l1, l2, q3⟩ => ⟨I3.kIn, ?_⟩
  rw [nm]
  exact runK (us := [.ref a]) (vs := [.ref a]) F room kb (px σ) I3 (.cons rfl .nil) rz l1 l2 q3
/-- o.m(e, ..), which may raise -/
def tMS (C : Addr) (m : Str) (sp : Sp) (E : L2.St → XK) (to : TE) (t : TA) : TE := fun σ H Q =>
  to σ H fun x H1 => ∃ a dx fs, x = .ref a ∧ H1 a = some (.ins C dx fs) ∧ fs.lookup m = none ∧ t σ H1 fun vs H2 => sp (.ref a :: vs) H2 Q (E σ)
theorem pe_ms (he : PE X o to) (c : Cls X.K C) (hm : Meth X.K C m f) (F : FnOk X.prog X.w X.K X.mg X.base Z k f fd ps sp) (room : Room k X.A) (b : Binds X.K fd ps []) (px : ∀ σ, PassesAt Z X σ (E σ)) (pa : PA X (e :: es) t)
    (st : starEach (e :: es) X.env = (false, eval e X.env) :: starEach es X.env := by rfl) (pn : (backTo pos (starEach es X.env)).any (·.1) = false := by rfl)
    (form : eval (.Call (.Attribute o m apos) (e :: es) [] pos) X.env = (do
      let ov ← eval o X.env
      standAt apos.atName
      let (f, first) ← holding [ov] (getMethod ov m pl)
      callWith pos f first (backTo pos (starEach (e :: es) X.env)) (backToKw pos (keywordEach [] X.env))) := by rfl) :
    PE X (.Call (.Attribute o m apos) (e :: es) [] pos) (tMS C m sp E to t) := by
  constructor
  intro pins s σ H Q I h
  refine PySem.W.methodCall_KW (pl := pl) (thn (he.run pins s σ H _ I h) fun u s1 ⟨x, H1, I1, rx, a, dx, fs, ex, ea, l, q⟩ => ?_) form
  subst ex
  obtain rfl : u = Value.ref a := rx
  refine getmeth_ok I1 ea c hm l (PySem.W.callWith_K (first := [.ref a]) (h₀ := X.base) I.ok.mod.kin hm.kp (thn (pa.run pos pins s1 σ H1 _ I1 q) fun us s2 ⟨vs, H2, I2, rv, q2⟩ => ⟨I2.kIn, ?_⟩) st pn)
  exact run_fnS (us := .ref a :: us) (vs := .ref a :: vs) F room b (px σ) I2 (.cons rfl rv) q2
end

/-! ### isinstance of an error that has fields -/
section
open PySem.W
variable {prog : Program} {w : World} {A : Around} {E : Value → Shared → Prop} {s : Shared} {K : Frag} {x D : Addr} {ox : Obj} {od : Option Obj}
theorem err_class {Q : Option Value → Shared → Prop} (T : ExcC K D) (hf : findObj K D od "__class__" = some (.bind (.builtin "getset_descriptor.__get__") (.builtin "object.__class__"))) (kin : K.In s.heap)
    (J : InstAt s.heap x ox D od) (h : Q (some (.ref D)) { s with toks := s.toks + 1 }) : wpAny (model prog w) A (getAttr? (.ref x) "__class__") Q E s := by
  obtain ⟨hp, g, d, t, os⟩ := s
  have ty := J.type (M := model prog w)
  have own := looks_findIn (M := model prog w) kin T.hg
  have no := looks_findIn (M := model prog w) kin T.hk
  have fnd := looks_find (M := model prog w) kin J hf
  have base : Looks (model prog w) hp (isInstance (.ref x) (.type "BaseException")) true := ty.andThen (looks_subIn kin T.hs)
  have b1 : (Value.builtin "BaseException.__getattribute__" == Value.builtin "object.__getattribute__") = false := by decide +kernel
  have b2 : (onTheHeap (Value.ref D) && Value.builtin "BaseException.__getattribute__" == Value.builtin "object.__getattribute__") = false := by
    rw [b1]
    rfl
  unfold getAttr? getAttrBy? getAttrBy
  refine wpAny_bind (wpAny_mkText (wpAny_bind (wpAny_attempt (wpAny_holding (wpAny_bind (ty.at (wpAny_bind (own.at ?_))))))))
  show wpAny _ _ (if (onTheHeap (Value.ref D) && Value.builtin "BaseException.__getattribute__" == Value.builtin "object.__getattribute__") = true then _ else _) _ _ _
  rw [if_neg (by rw [b2]; exact Bool.false_ne_true)]
  unfold getAttrByItsOwn hookBefore
  refine wpAny_bind ?_
  rw [if_pos (show onTheHeap (Value.ref D) = true from rfl)]
  refine no.at (wpAny_bind (wpAny_attempt (wpAny_holding ?_)))
  unfold callGetattribute
  rw [if_neg (show ¬ (false && onTheHeap (Value.builtin "BaseException.__getattribute__")) = true from Bool.false_ne_true)]
  unfold boundAndCalled
  rw [PySem.F.excAttr_ValueError.ga.bind (.ref x)]
  refine wpAny_bind (wpAny_pure ?_)
  show wpAny _ _ (call (.builtin "BaseException.__getattribute__") [.ref x, .str "__class__" t]) _ _ _
  refine wpAny_call (codeAny_call_builtin PySem.F.excAttr_ValueError.ga.plain PySem.F.entry_bexc_ga (@check_slot (model prog w) _ _ ⟨hp, g, d, t + 1, os⟩ "BaseException.__getattribute__" "BaseException" "__getattribute__" (.ref x) [.str "__class__" t] [] _ (by decide +kernel) (by decide +kernel) base (PySem.F.args_bexc_ga (.ref x) (.str "__class__" t)) ?_))
  unfold Builtin.«object.__getattribute__»
  refine wpAny_bind (wpAny_of_eq (a := ((Value.ref x : Value), [Value.str "__class__" t])) (by first | rfl | (simp only [slotArgs]; rfl)) ?_)
  refine wpAny_bind (wpAny_pure (wpAny_bind (ty.at (wpAny_bind (fnd.at ?_)))))
  show wpAny _ _ (holding [Value.builtin "object.__class__"] (call (.builtin "getset_descriptor.__get__") [.builtin "object.__class__", .ref x, .ref D]) >>= ret) _ _ _
  refine wpAny_bind (wpAny_holding (wpAny_call (class_get (s := ⟨hp, g, d, t + 1, os⟩) (ox := ox) (od := od) kin J T.hm (wpAny_pure ?_))))
  show wpAny _ _ (handedOut (.ref D)) _ _ _
  rw [handedOut_of (v := .ref D) rfl]
  first
    | exact wpAny_pure (wpAny_pure h)
    | exact wpAny_pure h
    | exact wpAny_pure (wpAny_bind (wpAny_pure (wpAny_pure h)))
end
section
theorem err_kit {K : PySem.W.Frag} {a D : Addr} {oe : Obj} {od : Option Obj} (T : ExcC K D) (hf : PySem.W.findObj K D od "__class__" = some (.bind (.builtin "getset_descriptor.__get__") (.builtin "object.__class__"))) :
    PySem.W.KitX K (.ref a) (.ref D) (fun h => PySem.W.InstAt h a oe D od) where
  ty := fun _ _ _ J => J.type
  ca := fun kin J k => err_class T hf kin J k
  it := fun _ h kin _ => by
    obtain ⟨cd, hc, _⟩ := PySem.W.any_some T.hd
    unfold PySem.W.clsIn at hc
    split at hc
    · rename_i c' d' cd' sl' ho
      intro A' Q' E' s' keep q
      unfold isType loadHead
      exact wpAny_bind (wpAny_loadPart (keep _ _ (kin _ _ ho)) (wpAny_pure q))
    · cases hc
  ne := fun h tp dd its n sl kin htp => by
    obtain ⟨cd, hc, _⟩ := PySem.W.any_some T.hd
    rw [beq_eq_false_iff_ne]
    intro e
    obtain rfl := Value.ref.inj e
    unfold PySem.W.clsIn at hc
    split at hc
    · rename_i c' d' cd' sl' ho
      have z := (kin _ _ ho).symm.trans htp
      cases z
    · cases hc
/-- isinstance(e, c), e the error that the suite holds, with its fields -/
def rIsEF (K : PySem.W.Frag) (D a : Addr) (cls : Value) (d : Option Addr) : List V → Hp → VK → Prop := fun xs H Q => ∃ (dd : Addr) (fs : List (Str × V)) (c : V) (cv : Value) (b : Bool),
  cls = .ref D ∧ d = some dd ∧ H dd = some (.xd fs) ∧ xs = [.ref a, c] ∧ (∀ u, RelV c u → u = cv) ∧ PySem.W.kitOne K (.ref D) cv = some b ∧ Q (.bl b) H
theorem call_isEF {X : Cx} {a D : Addr} {oe : Obj} {cls : Value} {d : Option Addr} {pn : List (Addr × Obj)} (T : ExcC X.K D) (hz : Zc cls d oe) (hf : ∃ vs, oe.data = .fields vs) :
    CallR (X.suite a ((a, oe) :: pn)) (.builtin "isinstance") (rIsEF X.K D a cls d) := by
  intro pins s σ H xs us Q I r h
  obtain ⟨dd, fs, c, cv, b, rfl, rfl, hd, rfl, hcv, e, q⟩ := h
  match r with
  | .cons rx (.cons rt .nil) =>
    cases rx
    obtain rfl := hcv _ rt
    obtain ⟨hget, _⟩ := I.pin (a, oe) (List.mem_append_left _ List.mem_cons_self)
    obtain ⟨vs, hv⟩ := hf
    have hx : ObjOk X.prog X.w H s.heap dd (.xd fs) := I.hok dd _ hd
    obtain ⟨mA, hns, _⟩ := hx
    obtain ⟨od, ho, _⟩ := lookIn_ns hns
    have J : PySem.W.InstAt s.heap a oe D (some od) := ⟨hget, hz.1, by unfold PySem.W.notCls; rw [hv] <;> rfl, by rw [hz.2]; exact ho⟩
    have hc : (PySem.W.clsIn X.K D).isSome = true := by
      obtain ⟨cd, hc, _⟩ := PySem.W.any_some T.hd
      rw [hc]
      rfl
    exact PySem.W.kia_one (err_kit T (PySem.W.findObj_data hc T.ha T.hn T.ht)) I.kIn J e (fun z => nomatch z) fun tk => ⟨.bl b, H, I.kept (t' := tk) fun _ _ z => z, rfl, q⟩
end
end Own

set_option Elab.async false
set_option maxRecDepth 100000
/-! generator methods by keywords; sorted, min and max of lists of data -/
namespace Own
open PySem PySem.Spec PyProof.Rows L2

/-! ### list(o.m(.., k = v)), m a generator -/
section
variable {X : Cx} {k n : Nat} {C f : Addr} {fd : FuncData} {ps ks : List Str} {sp : SpG} {m : Str} {pos apos : Pos} {o e : Expr} {es : List Expr} {kws : List Keyword} {to : TE} {t tk : TA}
  {g : List Value → List Value → List Value} {gV : List V → List V → List V} {E : XK} {pl : Sem Bool}
theorem run_gK {pins : List (Addr × Obj)} {σ : L2.St} {H : Hp} {s : Shared} {us ws : List Value} {vs zs : List V} {cont : List V → Hp → Prop} {E1 : Value → Shared → Prop} (F : GFn X.prog X.w X.K X.mg X.base k f fd ps sp) (hr : Room k X.A)
    (kb : KBn X.K fd ps n ks g gV) (I : Inv X pins σ H s) (rv : Vals vs us) (rz : Vals zs ws) (l1 : vs.length = n) (l2 : zs.length = ks.length) (h : sp (gV vs zs) H cont E) :
    wpAny (model X.prog X.w) X.A (call (.ref f) us (ks.zip ws)) (fun u s' => ∃ H1 sc ex, Inv X pins σ H1 sc ∧ ExOk X pins ex ∧ GMade X.prog X.w k X.stack H1 sc ex cont E u s') E1 s := by
  refine wpAny_call (codeAny_mono (F.run X.A X.stack s H ⟨us, ks.zip ws⟩ (g us ws) (gV vs zs) cont E hr I.env0 (kb.to s us ws I.kIn (rv.length.symm.trans l1) (rz.length.symm.trans l2)) (kb.rel rv rz) h) fun r s' hq => ?_)
  match r, hq with
  | .error e, hq => exact hq.elim
  | .ok (.ret u), hq => exact ⟨H, s, [], I, .nil, hq⟩
  | .ok .next, hq => exact hq.elim
  | .ok .brk, hq => exact hq.elim
  | .ok .cont, hq => exact hq.elim
def tMGK (C : Addr) (m : Str) (n mm : Nat) (sp : SpG) (gV : List V → List V → List V) (E : XK) (to : TE) (t tk : TA) : TGen := fun σ H cont => to σ H fun x H1 => ∃ a dx fs, x = .ref a ∧ H1 a = some (.ins C dx fs) ∧ fs.lookup m = none ∧
  t σ H1 fun vs H2 => tk σ H2 fun zs H3 => (V.ref a :: vs).length = n ∧ zs.length = mm ∧ sp (gV (.ref a :: vs) zs) H3 cont E
theorem pgen_mk1 (he : PE X o to) (c : Cls X.K C) (hm : Meth X.K C m f) (F : GFn X.prog X.w X.K X.mg X.base k f fd ps sp) (hr : Room k X.A) (kb : KBn X.K fd ps n ks g gV) (pa : PA X (e :: es) t) (pk : PK X kws tk)
    (all : (backToKw pos (keywordEach kws X.env)).all (·.1.isSome) = true := by rfl) (nm : (backToKw pos (keywordEach kws X.env)).filterMap (·.1) = ks := by rfl)
    (st : starEach (e :: es) X.env = (false, eval e X.env) :: starEach es X.env := by rfl)
    (pn : ((backTo pos (starEach (e :: es) X.env)).any (·.1) || (backToKw pos (keywordEach kws X.env)).any (·.1.isNone)) = false := by rfl)
    (form : eval (.Call (.Attribute o m apos) (e :: es) kws pos) X.env = (do
      let ov ← eval o X.env
      standAt apos.atName
      let (f, first) ← holding [ov] (getMethod ov m pl)
      callWith pos f first (backTo pos (starEach (e :: es) X.env)) (backToKw pos (keywordEach kws X.env))) := by rfl) :
    PGen X k (.Call (.Attribute o m apos) (e :: es) kws pos) (tMGK C m n ks.length sp gV E to t tk) E := by
  constructor
  intro pins s σ H cont I h
  refine PySem.W.methodCall_KW (pl := pl) (thn (he.run pins s σ H _ I h) fun u s1 ⟨x, H1, I1, rx, a, dx, fs, ex, ea, l, q⟩ => ?_) form
  subst ex
  obtain rfl : u = Value.ref a := rx
  refine getmeth_ok I1 ea c hm l (PySem.W.callWith_KW (first := [.ref a]) (h₀ := X.base) I.ok.mod.kin hm.kp all (thn (pa.run pos pins s1 σ H1 _ I1 q) fun us s2 ⟨vs, H2, I2, rv, q2⟩ => ?_) pn st)
  refine thn (pk.run pos pins s2 σ H2 _ I2 q2) fun ws s3 ⟨zs, H3, I3, rz, l1, l2, q3⟩ => ⟨I3.kIn, ?_⟩
  rw [nm]
  exact run_gK (us := .ref a :: us) (vs := .ref a :: vs) F hr kb I3 (.cons rfl rv) rz l1 l2 q3
theorem pgen_mk0 (he : PE X o to) (c : Cls X.K C) (hm : Meth X.K C m f) (F : GFn X.prog X.w X.K X.mg X.base k f fd ps sp) (hr : Room k X.A) (kb : KBn X.K fd ps n ks g gV) (pk : PK X kws tk)
    (all : (backToKw pos (keywordEach kws X.env)).all (·.1.isSome) = true := by rfl) (nm : (backToKw pos (keywordEach kws X.env)).filterMap (·.1) = ks := by rfl)
    (pn : ((backTo pos (starEach [] X.env)).any (·.1) || (backToKw pos (keywordEach kws X.env)).any (·.1.isNone)) = false := by rfl)
    (form : eval (.Call (.Attribute o m apos) [] kws pos) X.env = (do
      let ov ← eval o X.env
      standAt apos.atName
      let (f, first) ← holding [ov] (getMethod ov m pl)
      callWith pos f first (backTo pos (starEach [] X.env)) (backToKw pos (keywordEach kws X.env))) := by rfl) :
    PGen X k (.Call (.Attribute o m apos) [] kws pos) (tMGK C m n ks.length sp gV E to tNil tk) E := by
  constructor
  intro pins s σ H cont I h
  refine PySem.W.methodCall_KW (pl := pl) (thn (he.run pins s σ H _ I h) fun u s1 ⟨x, H1, I1, rx, a, dx, fs, ex, ea, l, q⟩ => ?_) form
  subst ex
  obtain rfl : u = Value.ref a := rx
  refine getmeth_ok I1 ea c hm l (PySem.W.callWith_KW0 (first := [.ref a]) (h₀ := X.base) I.ok.mod.kin hm.kp all ?_ pn)
  refine thn (pk.run pos pins s1 σ H1 _ I1 q) fun ws s3 ⟨zs, H3, I3, rz, l1, l2, q3⟩ => ⟨I3.kIn, ?_⟩
  rw [nm]
  exact run_gK (us := [.ref a]) (vs := [.ref a]) F hr kb I3 (.cons rfl .nil) rz l1 l2 q3
end

/-! ### sorted(xs), xs data -/
section
variable {X : Cx}
open PySem.W in
theorem eachV {pins : List (Addr × Obj)} {σ : L2.St} {H : Hp} {s : Shared} (I : Inv X pins σ H s) : ∀ {bs : List (V × PyData)} {its : List Value}, Vals (bs.map (·.1)) its → (∀ b ∈ bs, Dp X.K H b.1 b.2) →
    EachIs (fun v (b : V × PyData) => RelV b.1 v) its bs ∧ EachIs (fun v (b : V × PyData) => ∃ as, Reads s.heap v b.2 as) its bs
  | [], _, r, _ => by
    cases r
    exact ⟨.nil, .nil⟩
  | b :: bs, _, r, h => by
    rw [List.map_cons] at r
    cases r with
    | cons r1 r2 =>
      obtain ⟨a1, a2⟩ := eachV I r2 fun c hc => h c (List.mem_cons_of_mem _ hc)
      exact ⟨.cons r1 a1, .cons (Dp.reads I b.2 b.1 _ (h b List.mem_cons_self) r1) a2⟩
open PySem.W in
theorem eachVals : ∀ {bs : List (V × PyData)} {its : List Value}, EachIs (fun v (b : V × PyData) => RelV b.1 v) its bs → Vals (bs.map (·.1)) its
  | _, _, .nil => .nil
  | _, _, .cons a b => .cons a (eachVals b)
/-- bs: the items with what they read as -/
def rSortedD (K : PySem.W.Frag) : List V → Hp → VK → Prop := fun xs H Q => ∃ (a : Addr) (bs : List (V × PyData)), xs = [.ref a] ∧ SqL K H a (bs.map (·.1)) ∧ (∀ b ∈ bs, Dp K H b.1 b.2 ∧ b.2.depth ≤ 50) ∧ PySem.W.AllAlike (bs.map (·.2)) ∧ PySem.W.Sortable (bs.map (·.2)) ∧
  ∀ p, H p = none → Q (.ref p) (upd H p (.lst ((bs.mergeSort (PySem.W.dataLe false fun b : V × PyData => b.2)).map (·.1))))
theorem call_sortedD (hu : X.A.units + 64 < cLine) : CallR X (.builtin "sorted") (rSortedD X.K) := by
  intro pins s σ H xs us Q I r h
  obtain ⟨a, bs, rfl, hs, hd, ha, hk, q⟩ := h
  obtain ⟨its, rv, hl, hz⟩ := I.list hs
  obtain ⟨u, rfl, ru⟩ := r.one
  obtain rfl : u = Value.ref a := ru
  obtain ⟨e1, e2⟩ := eachV I rv fun b hb => (hd b hb).1
  rw [List.length_map] at hz
  refine PySem.W.sorted_data (enc := fun b : V × PyData => b.2) hl.isList e1 e2 ha hk hz (fun b hb => ?_) fun out ho eo => ?_
  · have := (hd b hb).2
    omega
  · obtain ⟨c, hc⟩ := PyProof.Rows.sortedAll_at s.heap its out.toArray
    have fresh : H (s.heap.objs.size + 1) = none := I.hok.fresh (Nat.le_succ _)
    refine ⟨.ref _, _, I.laid (o := .lst ((bs.mergeSort (PySem.W.dataLe false fun b : V × PyData => b.2)).map (·.1))) (t' := s.toks) (fun b o e => PyProof.Rows.sortedAll_old e) (Nat.le_succ _) ⟨?_, out, c, eachVals eo, ?_⟩, rfl, q _ fresh⟩
    · rw [List.length_map, List.length_mergeSort]
      exact hz
    · rw [hc]
/-! ### min(xs), max(xs), xs data -/
/-- the item that is told is one of those whose data is the least (greatest) -/
def rBestD (K : PySem.W.Frag) (best : PyData → List PyData → PyData) : List V → Hp → VK → Prop := fun xs H Q => ∃ (a : Addr) (b : V × PyData) (bs : List (V × PyData)), xs = [.ref a] ∧ SqL K H a ((b :: bs).map (·.1)) ∧
  (∀ c ∈ b :: bs, Dp K H c.1 c.2 ∧ c.2.canLay0 = true) ∧ PySem.W.AlikeAll ((b :: bs).map (·.2)) ∧ PyData.depthAll ((b :: bs).map (·.2)) ≤ 50 ∧ ∀ c ∈ b :: bs, c.2 = best b.2 (bs.map (·.2)) → Q c.1 H
theorem dp_readsAll {pins : List (Addr × Obj)} {σ : L2.St} {H : Hp} {s : Shared} (I : Inv X pins σ H s) : ∀ {bs : List (V × PyData)} {its : List Value}, Vals (bs.map (·.1)) its → (∀ b ∈ bs, Dp X.K H b.1 b.2) → ∃ as, ReadsAll s.heap its (bs.map (·.2)) as
  | [], _, r, _ => by
    cases r
    exact ⟨_, .nil⟩
  | b :: bs, _, r, h => by
    rw [List.map_cons] at r
    cases r with
    | cons r1 r2 =>
      obtain ⟨as, q1⟩ := Dp.reads I b.2 b.1 _ (h b List.mem_cons_self) r1
      obtain ⟨cs, q2⟩ := dp_readsAll I r2 fun c hc => h c (List.mem_cons_of_mem _ hc)
      exact ⟨_, .cons q1 q2⟩
theorem vals_at : ∀ {bs : List (V × PyData)} {its : List Value}, Vals (bs.map (·.1)) its → ∀ {i : Nat} {v : Value}, its[i]? = some v → ∃ b ∈ bs, RelV b.1 v
  | [], _, r, i, v, e => by
    cases r
    simp at e
  | b :: bs, _, r, i, v, e => by
    rw [List.map_cons] at r
    cases r with
    | cons r1 r2 =>
      match i, e with
      | 0, e =>
        simp at e
        subst e
        exact ⟨b, List.mem_cons_self, r1⟩
      | i + 1, e =>
        simp at e
        obtain ⟨c, hc, h⟩ := vals_at r2 e
        exact ⟨c, List.mem_cons_of_mem _ hc, h⟩
theorem best_told {pins : List (Addr × Obj)} {σ : L2.St} {H : Hp} {s : Shared} {its : List Value} {bs : List (V × PyData)} {Q : VK} {d : PyData} (I : Inv X pins σ H s) (rv : Vals (bs.map (·.1)) its) (hd : ∀ c ∈ bs, Dp X.K H c.1 c.2 ∧ c.2.canLay0 = true)
    (q : ∀ c ∈ bs, c.2 = d → Q c.1 H) {i : Nat} {v : Value} {h' : Heap} {tk : Nat} {cs : List Addr} (e : its.toArray[i]? = some v) (r : Reads h' v d cs) (k : ∀ b o, s.heap.get? b = some o → h'.get? b = some o) : EP X pins σ Q v { s with heap := h', toks := tk } := by
  obtain ⟨c, hc, rc⟩ := vals_at rv (i := i) (v := v) (by simpa using e)
  obtain ⟨as, r2⟩ := Dp.reads I c.2 c.1 v (hd c hc).1 rc
  have e2 : c.2 = d := PySem.SeqAt.Reads.unique c.2 d v _ _ (hd c hc).2 (PyProof.Rows.Reads.keeps k r2) r
  exact ⟨c.1, H, I.kept k, rc, q c hc e2⟩
theorem call_minD (hc : X.calm = true) (hu : X.A.units + 64 < cLine) : CallR X (.builtin "min") (rBestD X.K PySem.W.minD) := by
  intro pins s σ H xs us Q I r h
  obtain ⟨a, b, bs, rfl, hs, hd, ha, hz, q⟩ := h
  obtain ⟨its, rv, hl, _⟩ := I.list hs
  obtain ⟨u, rfl, ru⟩ := r.one
  obtain rfl : u = Value.ref a := ru
  obtain ⟨as, ra⟩ := dp_readsAll I rv fun c hc => (hd c hc).1
  refine PySem.W.min_list_data (x := b.2) (xs := List.map (fun c : V × PyData => c.2) bs) (I.ok.hd hc) hl.isList (by simpa using ra) ha ?_ fun i v h' tk cs e r k => best_told I rv hd q e r k
  have z : PyData.depthAll (b.2 :: bs.map (·.2)) ≤ 50 := hz
  omega
theorem call_maxD (hc : X.calm = true) (hu : X.A.units + 64 < cLine) : CallR X (.builtin "max") (rBestD X.K PySem.W.maxD) := by
  intro pins s σ H xs us Q I r h
  obtain ⟨a, b, bs, rfl, hs, hd, ha, hz, q⟩ := h
  obtain ⟨its, rv, hl, _⟩ := I.list hs
  obtain ⟨u, rfl, ru⟩ := r.one
  obtain rfl : u = Value.ref a := ru
  obtain ⟨as, ra⟩ := dp_readsAll I rv fun c hc => (hd c hc).1
  refine PySem.W.max_list_data (x := b.2) (xs := List.map (fun c : V × PyData => c.2) bs) (I.ok.hd hc) hl.isList (by simpa using ra) ha ?_ fun i v h' tk cs e r k => best_told I rv hd q e r k
  have z : PyData.depthAll (b.2 :: bs.map (·.2)) ≤ 50 := hz
  omega
end
end Own

set_option Elab.async false
set_option maxRecDepth 100000
set_option maxHeartbeats 2000000
/-! d.items() walked by one name: each turn's pair is a tuple of its own -/
namespace Own
open PySem PySem.Spec PyProof.Rows PySem.W

section
variable {prog : Program} {w : World} {L : Type} [DecidableEq L] {kd : KeyKind prog w L} {A : Around} {E : Value → Shared → Prop} {s : Shared}
theorem get_alive {a : Addr} {Q : Option Obj → Shared → Prop} (h : Q (s.heap.get? a) s) : wpAny (model prog w) A (loadIfAlive a) Q E s := fun _ _ _ => h
/-- asked again, the pair of the turn before alive or not -/
theorem items_any {r d a : Addr} {fl : Bool} {i ep : Nat} {kvs : List (L × Value)} {k : L} {v y1 y2 : Value} {Q : Option Value → Shared → Prop} (hr : KdxIt s.heap r d i kvs.length ep y1 y2 a fl) (hd : s.heap.DictAt kd d kvs ep) (hx : kvs[i]? = some (k, v))
    (q : ∀ u h', kd.is k u = true → (∃ z1 z2 b gl, KdxIt h' r d (i + 1) kvs.length ep z1 z2 b gl) → h'.get? s.heap.objs.size = some { cls := .type "tuple", data := .seq #[u, v] } → h'.objs.size = s.heap.objs.size + 1 →
      (∀ b o, b ≠ r → s.heap.get? b = some o → h'.get? b = some o) → Q (some (.ref s.heap.objs.size)) { s with heap := h' }) :
    wpAny (model prog w) A (pyNext (.ref r)) Q E s := by
  obtain ⟨h0, gs, dn, tk, os⟩ := s
  obtain ⟨od, es, ho, hc, hdt, hk, hp, hn⟩ := id hd
  have ty : Shared.TypeIs ⟨h0, gs, dn, tk, os⟩ (.ref r) "dict_itemiterator" := ⟨_, hr, rfl⟩
  have own : Builtin.Dict_items.ownsTuple "dict_itemiterator" = true := by decide
  have sz : es.size = kvs.length := by rw [← hp.length, Array.length_toList]
  have lt : i < kvs.length := (List.getElem?_eq_some_iff.mp hx).1
  have lt' : i < es.size := by rw [sz]; exact lt
  obtain ⟨ek, ev⟩ := hp.get? (e := es[i]) (by simp [lt']) hx
  unfold pyNext
  refine wpAny_bind (wpAny_attempt (wpAny_callSpecial?_slot (name := Str.ofString "__next__") ty F.slot_dict_itemiterator_next (wpAny_call_entry F.slot_dict_itemiterator_next ty F.entry_dict_itemiterator_next ?body (F.args_dict_itemiterator_next_1 _))))
  case body =>
  refine wpAny_bind (wpAny_pure (wpAny_bind (wpAny_bind ?_)))
  (first | refine wpAny_bind (wpAny_typeNameOfWhole_itemiter ty (wpAny_pure ?_)) | refine wpAny_bind (wpAny_typeNameOf_itemiter ty (wpAny_pure ?_))); refine wpAny_bind (wpAny_fieldsOf hr rfl ?_)
  simp only [own, if_true]; show wpAny _ _ (if (Value.ref d == Value.none) = true then _ else _) _ _ _; rw [if_neg (show ¬ ((Value.ref d == Value.none) = true) from Bool.false_ne_true)]
  refine wpAny_bind (wpAny_pure (wpAny_bind (wpAny_dictEntries ho hdt ?_))); rw [if_neg (by rw [sz]; simp)]
  refine wpAny_bind (wpAny_pure (wpAny_bind (wpAny_dictEpoch ho hdt ?_))); rw [if_neg (by simp)]; refine wpAny_pure ?_
  simp only [show ¬ ((i : Int) < 0) from by omega, if_false, Int.toNat_natCast, Array.getElem?_eq_getElem lt']; refine wpAny_bind ?_
  (first | refine wpAny_bind (wpAny_typeNameOfWhole_itemiter ty (wpAny_pure ?_)) | refine wpAny_bind (wpAny_typeNameOf_itemiter ty (wpAny_pure ?_))); refine wpAny_bind (wpAny_isOneOf_itemiter ty ?_)
  show wpAny _ _ (setField (.ref r) 3 (rawInt ((i : Int) + 1)) >>= _) _ _ ⟨h0, gs, dn, tk, os⟩
  refine wpAny_bind (wpAny_setField_rec hr (by simp) fun h1 r1 b1 => ?_)
  replace b1 : Heap.SameBut r h0 h1 := b1
  replace r1 : KdxIt h1 r d (i + 1) kvs.length ep y1 y2 a fl := by
    have e : ((i + 1 : Nat) : Int) = (i : Int) + 1 := by omega
    unfold KdxIt
    rw [e]
    simpa [rawInt] using r1
  have ty1 : Shared.TypeIs ⟨h1, gs, dn, tk, os⟩ (.ref r) "dict_itemiterator" := ⟨_, r1, rfl⟩
  refine wpAny_bind (wpAny_holding (wpAny_bind (wpAny_isOneOf_itemiter ty1 (wpAny_bind (wpAny_isOneOf_itemiter ty1 ?_)))))
  show wpAny _ _ (Builtin.Dict_items.pairFromOwner (.ref r) 6 es[i].key es[i].val) _ _ ⟨h1, gs, dn, tk, os⟩
  unfold Builtin.Dict_items.pairFromOwner; refine wpAny_bind (wpAny_newTuple ?_)
  have r2 : KdxIt (h1.push { cls := .type "tuple", data := .seq #[es[i].key, es[i].val] }) r d (i + 1) kvs.length ep y1 y2 a fl := Heap.get?_push_of_some _ r1
  have z1 : h1.objs.size = h0.objs.size := b1.1
  have lr : r < h0.objs.size := Heap.lt_size hr
  have t2 : (h1.push { cls := .type "tuple", data := .seq #[es[i].key, es[i].val] }).get? h0.objs.size = some { cls := .type "tuple", data := .seq #[es[i].key, es[i].val] } := by rw [← z1]; exact Heap.get?_push_size _ rfl
  have z2 : (h1.push { cls := .type "tuple", data := .seq #[es[i].key, es[i].val] }).objs.size = h0.objs.size + 1 := by rw [Heap.size_push, z1]
  have k2 : ∀ b o, b ≠ r → h0.get? b = some o → (h1.push { cls := .type "tuple", data := .seq #[es[i].key, es[i].val] }).get? b = some o := fun b o hb e => Heap.get?_push_of_some _ (b1.extBut b o hb e)
  generalize h1.push { cls := .type "tuple", data := .seq #[es[i].key, es[i].val] } = h2 at r2 t2 z2 k2 ⊢
  rw [z1]
  have fin : ∀ (h3 : Heap) (y3 y4 : Value) (b : Addr) (gl : Bool), KdxIt h3 r d (i + 1) kvs.length ep y3 y4 b gl → Heap.SameBut r h2 h3 → Q (some (.ref h0.objs.size)) ⟨h3, gs, dn, tk, os⟩ := fun h3 y3 y4 b gl r3 b3 =>
    q es[i].key h3 ek ⟨y3, y4, b, gl, r3⟩ (by rw [← ev]; exact b3.extBut _ _ (Nat.ne_of_gt lr) t2) (by rw [b3.1, z2]) fun b o hb e => b3.extBut b o hb (k2 b o hb e)
  show wpAny _ _ (Builtin.Dict_items.ownedTupleIsFree (.ref r) >>= _) _ _ ⟨h2, gs, dn, tk, os⟩
  refine wpAny_bind ?_
  unfold Builtin.Dict_items.ownedTupleIsFree
  refine wpAny_bind (wpAny_field r2 rfl (x := rawInt a) rfl ?_)
  show wpAny _ _ (loadIfAlive ((a : Int).toNat) >>= _) _ _ _
  rw [Int.toNat_natCast]
  refine wpAny_bind (get_alive ?_)
  show wpAny _ _ (if (h2.get? a).isNone = true then _ else _) _ _ _
  cases e : h2.get? a with
  | some oa =>
    rw [if_neg (show ¬ ((some oa).isNone = true) from Bool.false_ne_true)]
    refine wpAny_bind (wpAny_field r2 rfl (x := .bool fl) rfl ?_)
    cases fl with
    | true =>
      rw [if_neg (show ¬ ((Value.bool true != .bool true) = true) from Bool.false_ne_true)]
      refine wpAny_pure (wpAny_pure (wpAny_pure ⟨_, rfl, wpAny_pure (fin h2 _ _ _ _ r2 (.refl _ _))⟩))
    | false =>
      rw [if_pos (show (Value.bool false != .bool true) = true from rfl)]
      refine wpAny_bind (wpAny_setField_rec r2 (by simp) fun h3 r3 b3 => ?_)
      have r3' : KdxIt h3 r d (i + 1) kvs.length ep y1 y2 a true := r3
      exact wpAny_pure (wpAny_pure (wpAny_pure ⟨_, rfl, wpAny_pure (fin h3 _ _ _ _ r3' b3)⟩))
  | none =>
    rw [if_pos (show ((none : Option Obj).isNone = true) from rfl)]
    refine wpAny_pure ?_
    show wpAny _ _ (if true = true then _ else _) _ _ _
    rw [if_pos rfl]
    show wpAny _ _ (field (.ref r) 6 >>= _) _ _ _
    refine wpAny_bind (wpAny_field r2 rfl (x := y1) rfl (wpAny_bind (wpAny_field r2 rfl (x := y2) rfl ?_)))
    refine wpAny_bind (wpAny_setField_rec r2 (by simp) fun h3 r3 b3 => wpAny_bind (wpAny_setField_rec r3 (by simp) fun h4 r4 b4 => wpAny_bind (wpAny_setField_rec r4 (by simp) fun h5 r5 b5 => wpAny_bind (wpAny_setField_rec r5 (by simp) fun h6 r6 b6 => ?_))))
    have r6' : KdxIt h6 r d (i + 1) kvs.length ep es[i].key es[i].val h0.objs.size false := r6
    have b26 : Heap.SameBut r h2 h6 := by
      have c3 : Heap.SameBut r h2 h3 := b3
      have c4 : Heap.SameBut r h3 h4 := b4
      have c5 : Heap.SameBut r h4 h5 := b5
      have c6 : Heap.SameBut r h5 h6 := b6
      exact ⟨by rw [c6.1, c5.1, c4.1, c3.1], fun b hb => by rw [c6.2 b hb, c5.2 b hb, c4.2 b hb, c3.2 b hb]⟩
    refine wpAny_bind (wpAny_letGo (wpAny_pure (wpAny_pure ⟨_, rfl, wpAny_pure (fin h6 _ _ _ _ r6' b26)⟩)))
end
/-! ### as a walk of the layer -/
/-- the iterator as it stands ahead of turn i -/
def ItAt (r d n ep : Nat) (i : Nat) (h : Heap) : Prop := (i = 0 ∧ ∃ y1 y2, IsItemIter h r d 0 n ep y1 y2) ∨ ∃ y1 y2 a fl, KdxIt h r d i n ep y1 y2 a fl
open L2 in
theorem turn_itemsN {P : Program} {w : World} {K : PySem.W.Frag} {d : Addr} {o : Obj} {es : Array DictEntry} {ep : Nat} {kvs : List (Key × V)} {y : Str} {p : Pos} (r : Addr) (hod : o.data = .dict es ep) :
    Turn P w K (.Name y p) (Iti d o kvs) [r] r (ItAt r d kvs.length ep) where
  mem := List.mem_singleton.mpr rfl
  obj := fun i h st b hb => by
    obtain rfl := List.mem_singleton.mp hb
    rcases st with ⟨_, y1, y2, e⟩ | ⟨y1, y2, a, fl, e⟩
    · exact ⟨_, e, fun v z => nomatch z⟩
    · exact ⟨_, e, fun v z => nomatch z⟩
  keep := fun i h h' st k => by
    rcases st with ⟨e0, y1, y2, e⟩ | ⟨y1, y2, a, fl, e⟩
    · exact .inl ⟨e0, y1, y2, k r (List.mem_singleton.mpr rfl) _ e⟩
    · exact .inr ⟨y1, y2, a, fl, k r (List.mem_singleton.mpr rfl) _ e⟩
  item := by
    intro X hP hw hK hc i pins s σ H E I hf st hg
    subst hP hw hK
    obtain ⟨hd, hi⟩ := hg
    obtain ⟨hs, hgd, hx, es', ep', vs, dat_, n_, kv, at_⟩ := I.frzK hd
    obtain ⟨rfl, rfl⟩ : es = es' ∧ ep = ep' := ⟨(dict_ep hod dat_).1.symm, (dict_ep hod dat_).2.symm⟩
    obtain ⟨⟨k, v⟩, hkv⟩ : ∃ q, kvs[i]? = some q := ⟨kvs[i], List.getElem?_eq_getElem hi⟩
    obtain ⟨u, hu, ru⟩ := kv_get kv hkv
    have len_ : kvs.length = vs.length := Paired.length kv
    have after : ∀ (key : Value) (h' : Heap), keyIs k key = true → (∃ z1 z2 b gl, KdxIt h' r d (i + 1) vs.length ep z1 z2 b gl) → h'.get? s.heap.objs.size = some { cls := .type "tuple", data := .seq #[key, u] } →
        (∀ b ob, b ≠ r → s.heap.get? b = some ob → h'.get? b = some ob) → r < s.heap.objs.size →
        ∃ uu, some (Value.ref s.heap.objs.size) = some uu ∧ wpAny (model X.prog X.w) X.A (letOwnedTupleGo (.Name y p) (.ref r) uu) (fun _ s2 => ∃ x H', Inv X pins σ H' s2 ∧ RelV x uu ∧ (Iti d o kvs).yld i H x H' ∧ ItAt r d kvs.length ep (i + 1) s2.heap ∧ ∀ b ∈ [r], H' b = none) E { s with heap := h' } := by
      intro key h' hkey st' hT hk lt
      have new : ObjOk X.prog X.w (upd H s.heap.objs.size (.tup [kV k, v])) h' s.heap.objs.size (.tup [kV k, v]) :=
        ⟨by show 2 ≤ sizeLine; decide, [key, u], .cons (relV_key hkey) (.cons ru .nil), ⟨_, hT, rfl, _, rfl⟩⟩
      have I1 : Inv X pins σ (upd H s.heap.objs.size (.tup [kV k, v])) { s with heap := h' } :=
        I.turnedNew (t' := s.toks) (ch := [r]) (fun b ob hb e => hk b ob (fun z => hb (List.mem_singleton.mpr z)) e) hf (Nat.le_refl _) new
      refine ⟨_, rfl, wpAny_pure ⟨.ref s.heap.objs.size, _, I1, rfl, ⟨_, k, v, hkv, rfl, I.hok.fresh (Nat.le_refl _), rfl⟩, .inr ?_, fun b hb => ?_⟩⟩
      · rw [len_]
        exact st'
      · obtain rfl := List.mem_singleton.mp hb
        rw [upd_ne (Nat.ne_of_lt lt)]
        exact (hf b hb).1
    rcases st with ⟨rfl, y1, y2, he⟩ | ⟨y1, y2, a, fl, he⟩
    · rw [len_] at he
      exact wpAny_pyNext_items_item he at_ hu fun key h' hkey ho hT hz hk => after key h' hkey ⟨_, _, _, _, ho⟩ hT hk (Heap.lt_size he)
    · rw [len_] at he
      exact items_any he at_ hu fun key h' hkey st' hT hz hk => after key h' hkey st' hT hk (Heap.lt_size he)
  done := by
    intro X hP hw hK hc i pins s σ H E I hf st hg
    subst hP hw hK
    obtain ⟨hd, hi⟩ := hg
    obtain ⟨f0, f1, f2, f3, f4, f5⟩ := hf r (List.mem_singleton.mpr rfl)
    obtain ⟨hs, hgd, hx, es', ep', vs, dat_, n_, kv, at_⟩ := I.frzK hd
    obtain ⟨rfl, rfl⟩ : es = es' ∧ ep = ep' := ⟨(dict_ep hod dat_).1.symm, (dict_ep hod dat_).2.symm⟩
    have len_ : kvs.length = vs.length := Paired.length kv
    have none_ : vs[i]? = none := List.getElem?_eq_none (by omega)
    rcases st with ⟨rfl, y1, y2, he⟩ | ⟨y1, y2, a, fl, he⟩
    · rw [len_] at he
      exact wpAny_pyNext_items_end (I.ok.hd hc) he at_ none_ fun h' eb => ⟨rfl, I.turned (t' := s.toks) (fun b ob hb e => eb b ob hb e) f0 f1 f3 f4 f5⟩
    · rw [len_] at he
      exact kdx_end_out (I.ok.hd hc) he at_ none_ fun h' eb => ⟨rfl, I.turned (t' := s.toks) (fun b ob hb e => eb b ob hb e) f0 f1 f3 f4 f5⟩
  self := fun A i s Q E st h => by
    rcases st with ⟨_, y1, y2, e⟩ | ⟨y1, y2, a, fl, e⟩
    · exact PySem.W.kcp_self e h
    · have ty : s.TypeIs (.ref r) "dict_itemiterator" := ⟨_, e, rfl⟩
      exact wpAny_pyIter_slot ty F.slot_dict_itemiterator_iter (wpAny_call_entry F.slot_dict_itemiterator_iter ty kcp_entry (show wpAny _ _ (ret (.ref r)) _ _ s from wpAny_pure ⟨_, rfl, "dict_itemiterator", _, ty, F.slot_dict_itemiterator_next.lookup, h⟩) (F.args_dict_itemiterator_iter_1 _))
open L2 in
/-- for x in d.items(), x one name -/
theorem pi_itemsN {X : L2.Cx} {e : Expr} {td : L2.TE} {apos cpos p : Pos} {y : Str} (he : L2.PE X e td) (hb : attributeBase e "items" X.env (eval e X.env) = eval e X.env := by rfl) (len_ine : (apos.endLine == cpos.line) = true := by rfl) :
    L2.PI X (.Name y p) (.Call (.Attribute e "items" apos) [] [] cpos) (L2.iItems td) := by
  constructor
  intro pins s σ H R I h
  refine wpAny_Call_method (T := "dict") (id := "dict.items") hb rfl len_ine F.plainAttrs_dict F.slot_dict_items F.type_dict_items (thn (he.run pins s σ H _ I h) fun u s1 ⟨x, H1, I1, rx, d, o, kvs, ex, hd, q⟩ => ?_)
  subst ex
  obtain rfl : u = Value.ref d := rx
  obtain ⟨hs, hgd, hx, es, ep, vs, dat_, n_, kv, at_⟩ := I1.frzK hd
  have len_ : kvs.length = vs.length := Paired.length kv
  refine ⟨at_.dictOf.typeIs, at_.dictOf.mapOf.noDict, ?_⟩
  have I2 : L2.Inv X pins σ H1 { s1 with heap := s1.heap.push { cls := .type "dict_items", data := .fields #[.ref d] } } := I1.kept (t' := s1.toks) fun b ob z => Heap.get?_push_of_some _ z
  have then_ : wpAny (model X.prog X.w) X.A (pyIter (.ref s1.heap.objs.size)) (L2.PIE X pins σ (.Name y p) R) X.xe { s1 with heap := s1.heap.push { cls := .type "dict_items", data := .fields #[.ref d] } } := by
    refine wpAny_pyIter_items (d := d) (knd := L2.mixKind X.prog X.w) ⟨_, Heap.get?_push_size _ rfl, rfl, rfl⟩ (at_.push _) (L2.pi_one (tk := s1.toks) I2 _ (turn_itemsN _ dat_) (.inl ⟨rfl, .none, .none, ?_⟩) q)
    rw [len_]
    exact Heap.get?_push_size _ rfl
  show wpAny _ _ (callWith cpos (.builtin "dict.items") [.ref d] [] []) _ X.xe s1
  exact method_meetsIn F.slot_dict_items F.entry_dict_items rfl (PySem.evalArgs_none ⟨rfl, at_.dictOf.typeIs, F.args_dict_items_1 _, _, meets_dict_items (L2.mixKind X.prog X.w) d hs, ⟨vs, at_.dictOf⟩, then_⟩)
end Own

set_option Elab.async false
set_option maxRecDepth 100000
set_option maxHeartbeats 400000
/-! min and max of lists of tuples of whole numbers; calls of defs that raise nothing -/
namespace Own
open PySem PySem.Spec PyProof.Rows L2

/-! ### a def at a name, told without Quiet -/
structure CalF (P : Program) (w : World) (K : PySem.W.Frag) (mg : Str → Option Value) (g0 : Heap) (x : Str) (k : Nat) (ps : List Str) (sp : Sp) : Prop where
  ex : ∃ (f : Addr) (fd : FuncData), FnOk P w K mg g0 CX0 k f fd ps sp ∧ Binds K fd ps [] ∧ mg x = some (.ref f) ∧ PySem.W.keepIn K (.ref f) = true
theorem pe_cf {X : Cx} {k : Nat} {ps : List Str} {sp : Sp} {x : Str} {p pos : Pos} {e : Expr} {es : List Expr} {t : TA} (C : CalF X.prog X.w X.K X.mg X.base x k ps sp) (room : Room k X.A) (pa : PA X (e :: es) t) (gl : Gl X x := by rfl)
    (nodbg : (x == ("__debug__" : Str)) = false := by decide)
    (st : starEach (e :: es) X.env = (false, eval e X.env) :: starEach es X.env := by rfl) (pl : (backTo pos (starEach es X.env)).any (·.1) = false := by rfl) :
    PE X (.Call (.Name x p) (e :: es) [] pos) (tCall sp [] E0 t) := by
  obtain ⟨f, fd, F, bd, at_, kp⟩ := C.ex
  exact pe_call F room gl at_ kp bd .nil pass0 pa nodbg st pl

/-! ### the least and the greatest list -/
def minL (x : List Int) (xs : List (List Int)) : List Int := xs.foldl (fun a y => if HT.lexLt y a then y else a) x
def maxL (x : List Int) (xs : List (List Int)) : List Int := xs.foldl (fun a y => if HT.lexLt a y then y else a) x
def tupD (xs : List Int) : PyData := .tuple (xs.map PyData.int)
theorem minD_tup : ∀ (xs : List (List Int)) (x : List Int), PySem.W.minD (tupD x) (xs.map tupD) = tupD (minL x xs)
  | [], _ => rfl
  | y :: ys, x => by
    have ih := fun z => minD_tup ys z
    unfold PySem.W.minD minL at ih ⊢
    rw [List.map_cons, List.foldl_cons, List.foldl_cons]
    have e : PySem.W.dataLt (tupD y) (tupD x) = HT.lexLt y x := lt_ints y x
    rw [e]
    cases HT.lexLt y x with
    | true => exact ih y
    | false => exact ih x
theorem maxD_tup : ∀ (xs : List (List Int)) (x : List Int), PySem.W.maxD (tupD x) (xs.map tupD) = tupD (maxL x xs)
  | [], _ => rfl
  | y :: ys, x => by
    have ih := fun z => maxD_tup ys z
    unfold PySem.W.maxD maxL at ih ⊢
    rw [List.map_cons, List.foldl_cons, List.foldl_cons]
    have e : PySem.W.dataLt (tupD x) (tupD y) = HT.lexLt x y := lt_ints x y
    rw [e]
    cases HT.lexLt x y with
    | true => exact ih y
    | false => exact ih x
theorem lex_irr : ∀ xs : List Int, HT.lexLt xs xs = false
  | [] => rfl
  | x :: xs => by
    rw [HT.lexLt_cons, if_pos rfl]
    exact lex_irr xs
theorem minL_least : ∀ (xs : List (List Int)) (x : List Int), (∀ y ∈ x :: xs, HT.lexLt y (minL x xs) = false)
  | [], x => fun y hy => by
    rw [List.mem_singleton.mp hy]
    exact lex_irr x
  | z :: zs, x => fun y hy => by
    have e : minL x (z :: zs) = minL (if HT.lexLt z x then z else x) zs := rfl
    rw [e]
    cases c : HT.lexLt z x with
    | true =>
      rw [if_pos rfl]
      have ih := minL_least zs z
      rcases List.mem_cons.mp hy with rfl | hy
      · exact NtL.lex_tr _ _ _ (ih z List.mem_cons_self) (NtL.lex_asym _ _ c)
      · exact ih y hy
    | false =>
      rw [if_neg Bool.false_ne_true]
      have ih := minL_least zs x
      rcases List.mem_cons.mp hy with rfl | hy
      · exact ih _ List.mem_cons_self
      · rcases List.mem_cons.mp hy with rfl | hy
        · exact NtL.lex_tr _ _ _ (ih x List.mem_cons_self) c
        · exact ih y (List.mem_cons_of_mem _ hy)
theorem maxL_most : ∀ (xs : List (List Int)) (x : List Int), (∀ y ∈ x :: xs, HT.lexLt (maxL x xs) y = false)
  | [], x => fun y hy => by
    rw [List.mem_singleton.mp hy]
    exact lex_irr x
  | z :: zs, x => fun y hy => by
    have e : maxL x (z :: zs) = maxL (if HT.lexLt x z then z else x) zs := rfl
    rw [e]
    cases c : HT.lexLt x z with
    | true =>
      rw [if_pos rfl]
      have ih := maxL_most zs z
      rcases List.mem_cons.mp hy with rfl | hy
      · exact NtL.lex_tr _ _ _ (NtL.lex_asym _ _ c) (ih z List.mem_cons_self)
      · exact ih y hy
    | false =>
      rw [if_neg Bool.false_ne_true]
      have ih := maxL_most zs x
      rcases List.mem_cons.mp hy with rfl | hy
      · exact ih _ List.mem_cons_self
      · rcases List.mem_cons.mp hy with rfl | hy
        · exact NtL.lex_tr _ _ _ c (ih x List.mem_cons_self)
        · exact ih y (List.mem_cons_of_mem _ hy)
theorem tupD_inj {xs ys : List Int} (h : tupD xs = tupD ys) : xs = ys := by
  have e : xs.map PyData.int = ys.map PyData.int := by
    injection h
  exact (List.map_inj_right fun a b z => by injection z).mp e
/-- min(xs), max(xs): xs a list of tuples of whole numbers, not empty: k tells them -/
def rBestT (K : PySem.W.Frag) (bt : List Int → List Int → Bool) : List V → Hp → VK → Prop := fun xs H Q => ∃ (a : Addr) (ts : List Addr) (k : Addr → List Int), xs = [.ref a] ∧ ts ≠ [] ∧ SqL K H a (ts.map V.ref) ∧ (∀ t ∈ ts, H t = some (.tup ((k t).map V.int))) ∧
  ∀ t ∈ ts, (∀ u ∈ ts, bt (k u) (k t) = false) → Q (.ref t) H
def tagD (k : Addr → List Int) (t : Addr) : V × PyData := (.ref t, tupD (k t))
theorem canLay_tup : ∀ xs : List Int, PyData.canLayAll0 (xs.map PyData.int) = true
  | [] => rfl
  | x :: xs => by
    show (true && _) = true
    rw [canLay_tup xs]
    rfl
theorem tag_depth (k : Addr → List Int) : ∀ ts : List Addr, PyData.depthAll ((ts.map (tagD k)).map (·.2)) ≤ 1
  | [] => Nat.zero_le _
  | t :: ts => by
    show max (PyData.depthAll ((k t).map PyData.int) + 1) _ ≤ 1
    rw [depth_ints]
    exact Nat.max_le.mpr ⟨Nat.le_refl _, tag_depth k ts⟩
theorem tag_alike (k : Addr → List Int) (ts : List Addr) : PySem.W.AlikeAll ((ts.map (tagD k)).map (·.2)) := by
  refine ⟨fun x hx y hy => ?_, fun x hx => ?_⟩
  · rw [List.map_map] at hx hy
    obtain ⟨t, _, rfl⟩ := List.mem_map.mp hx
    obtain ⟨u, _, rfl⟩ := List.mem_map.mp hy
    exact alike_ints (k t) (k u)
  · rw [List.map_map] at hx
    obtain ⟨t, _, rfl⟩ := List.mem_map.mp hx
    exact fun z => by cases z
theorem best_of {K : PySem.W.Frag} {H : Hp} {Q : VK} {best : PyData → List PyData → PyData} {bl : List Int → List (List Int) → List Int} {bt : List Int → List Int → Bool} (hb : ∀ xs x, best (tupD x) (xs.map tupD) = tupD (bl x xs))
    (hl : ∀ (xs : List (List Int)) (x : List Int), ∀ y ∈ x :: xs, bt y (bl x xs) = false) {xs : List V} (h : rBestT K bt xs H Q) : rBestD K best xs H Q := by
  obtain ⟨a, ts0, k, rfl, ne, hs, ht, q⟩ := h
  cases ts0 with
  | nil => exact absurd rfl ne
  | cons t ts =>
  have e1 : (tagD k t :: ts.map (tagD k)).map (fun c : V × PyData => c.1) = (t :: ts).map V.ref := by
    rw [← List.map_cons, List.map_map]
    exact List.map_congr_left fun _ _ => rfl
  have e2 : (ts.map (tagD k)).map (fun c : V × PyData => c.2) = (ts.map k).map tupD := by
    rw [List.map_map, List.map_map]
    exact List.map_congr_left fun _ _ => rfl
  have d1 : ∀ c ∈ tagD k t :: ts.map (tagD k), Dp K H c.1 c.2 ∧ c.2.canLay0 = true := fun c hc => by
    rw [← List.map_cons] at hc
    obtain ⟨u, hu, rfl⟩ := List.mem_map.mp hc
    exact ⟨Dp.tup (SqT.of (ht u hu)) (dpAll_ints (k u)), canLay_tup (k u)⟩
  have d2 : PySem.W.AlikeAll ((tagD k t :: ts.map (tagD k)).map fun c : V × PyData => c.2) := by
    rw [← List.map_cons]
    exact tag_alike k (t :: ts)
  have d3 : PyData.depthAll ((tagD k t :: ts.map (tagD k)).map fun c : V × PyData => c.2) ≤ 50 := by
    rw [← List.map_cons]
    exact Nat.le_trans (tag_depth k (t :: ts)) (by decide)
  have d4 : ∀ c ∈ tagD k t :: ts.map (tagD k), c.2 = best (tagD k t).2 ((ts.map (tagD k)).map fun c : V × PyData => c.2) → Q c.1 H := fun c hc e => by
    rw [← List.map_cons] at hc
    obtain ⟨u, hu, rfl⟩ := List.mem_map.mp hc
    rw [e2] at e
    have e3 : tupD (k u) = tupD (bl (k t) (ts.map k)) := e.trans (hb (ts.map k) (k t))
    have e4 : k u = bl (k t) (ts.map k) := tupD_inj e3
    refine q u hu fun v hv => ?_
    rw [e4]
    refine hl (ts.map k) (k t) (k v) ?_
    rw [← List.map_cons]
    exact List.mem_map.mpr ⟨v, hv, rfl⟩
  exact ⟨a, tagD k t, ts.map (tagD k), rfl, e1 ▸ hs, d1, d2, d3, d4⟩
theorem call_minT {X : Cx} (hc : X.calm = true) (hu : X.A.units + 64 < cLine) : CallR X (.builtin "min") (rBestT X.K fun a b => HT.lexLt a b) :=
  fun pins s σ H xs us Q I r h => call_minD hc hu pins s σ H xs us Q I r (best_of minD_tup minL_least h)
theorem call_maxT {X : Cx} (hc : X.calm = true) (hu : X.A.units + 64 < cLine) : CallR X (.builtin "max") (rBestT X.K fun a b => HT.lexLt b a) :=
  fun pins s σ H xs us Q I r h => call_maxD hc hu pins s σ H xs us Q I r (best_of maxD_tup maxL_most h)
end Own

set_option Elab.async false
set_option maxRecDepth 100000
/-! what keywords bind; defs as they stand behind the top -/
namespace Own
open PySem PySem.Spec PyProof.Rows L2
theorem kb_of {K : PySem.W.Frag} {x qual : Str} {st : Stmt} {f : Addr} {fd : FuncData} {ps ks : List Str} {n : Nat} {g : List Value → List Value → List Value} {gV : List V → List V → List V} (F : Fun K x qual st f fd)
    (rel : ∀ {vs : List V} {us : List Value} {zs : List V} {ws : List Value}, Vals vs us → Vals zs ws → Vals (gV vs zs) (g us ws))
    (h : ∀ (kV doc pm : Value) (an : Option Addr) (cdv ct : Value) (us ws : List Value), us.length = n → ws.length = ks.length →
      bindArgs (PySem.W.fnOf x qual (defArgs st) (defBody st) (defScope st) .none kV doc pm an cdv ct) ⟨us, ks.zip ws⟩ = pure (ps.zip (g us ws))) : KBn K fd ps n ks g gV := by
  obtain ⟨oc, od, kV, doc, pm, an, cdv, ct, osl, rfl, _, _⟩ := F.ex
  exact ⟨fun s us ws _ l1 l2 => BindsTo.of_eq (h kV doc pm an cdv ct us ws l1 l2), rel⟩
/-- keywords for a def with defaults, none of which is needed -/
theorem kb_def {K : PySem.W.Frag} {x qual : Str} {params : Arguments} {body : List Stmt} {scope : Scope} {kws : List (Str × V)} {dvs : List V} {f : Addr} {fd : FuncData} {ps ks : List Str} {n : Nat} {g : List Value → List Value → List Value} {gV : List V → List V → List V}
    (F : FunD K x qual params body scope dvs kws f fd) (hd : dvs ≠ [])
    (rel : ∀ {vs : List V} {us : List Value} {zs : List V} {ws : List Value}, Vals vs us → Vals zs ws → Vals (gV vs zs) (g us ws))
    (h : ∀ (T : Addr) (kV doc pm : Value) (an : Option Addr) (cdv ct : Value) (us its ws : List Value), us.length = n → Vals dvs its → ws.length = ks.length →
      ∃ k, bindArgs (PySem.W.fnOf x qual params body scope (.ref T) kV doc pm an cdv ct) ⟨us, ks.zip ws⟩ = seqItems? (.ref T) >>= k ∧ k (some its.toArray) = pure (ps.zip (g us ws))) : KBn K fd ps n ks g gV := by
  obtain ⟨oc, od, dV, kV, doc, pm, an, cdv, ct, osl, rfl, lk, hcd, hD, hK⟩ := F.ex
  rcases hD with ⟨e, _⟩ | ⟨_, T, o, its, m, rfl, lT, oT, rT⟩
  · exact absurd e hd
  · refine ⟨fun s us ws X l1 l2 => ?_, rel⟩
    obtain ⟨k, e1, e2⟩ := h T kV doc pm an cdv ct us its ws l1 rT l2
    refine BindsTo.of_looks fun M => ?_
    rw [e1]
    exact looks_items X lT oT (.of_pure e2)
/-- keywords for a def whose defaults are keyword-only; ms: those that lack -/
theorem kb_kw {K : PySem.W.Frag} {x qual : Str} {params : Arguments} {body : List Stmt} {scope : Scope} {kws ms : List (Str × V)} {f : Addr} {fd : FuncData} {ps ks : List Str} {n : Nat} {g : List Value → List Value → List Value} {gV : List V → List V → List V}
    (F : FunD K x qual params body scope [] kws f fd) (hk : kws ≠ []) (hms : ∀ q ∈ ms, q ∈ kws)
    (rel : ∀ {vs : List V} {us : List Value} {zs : List V} {ws : List Value}, Vals vs us → Vals zs ws → Vals (gV vs zs) (g us ws))
    (h : ∀ (D : Addr) (doc pm : Value) (an : Option Addr) (cdv ct : Value) (us mv ws : List Value), us.length = n → Vals (ms.map (·.2)) mv → ws.length = ks.length →
      KwChain D ((ms.map (·.1)).zip mv) (bindArgs (PySem.W.fnOf x qual params body scope .none (.ref D) doc pm an cdv ct) ⟨us, ks.zip ws⟩) (ps.zip (g us ws))) : KBn K fd ps n ks g gV := by
  obtain ⟨oc, od, dV, kV, doc, pm, an, cdv, ct, osl, rfl, lk, hcd, hD, hK⟩ := F.ex
  rcases hD with ⟨_, rfl⟩ | ⟨e, _⟩
  · rcases hK with e | ⟨D, rfl, hq⟩
    · exact absurd e hk
    · obtain ⟨mv, hl, rk, hks⟩ := kwd_vals (ms := ms) fun q hm => hq q (hms q hm)
      exact ⟨fun s us ws X l1 l2 => BindsTo.of_looks fun M => KwChain.looks X hks (h D doc pm an cdv ct us mv ws l1 rk l2), rel⟩
  · exact absurd rfl e
theorem vals_rev : ∀ {zs : List V} {ws : List Value}, Vals zs ws → Vals zs.reverse ws.reverse
  | _, _, .nil => .nil
  | _, _, .cons h t => by
    rw [List.reverse_cons, List.reverse_cons]
    exact (vals_rev t).append (.cons h .nil)
theorem raw0 {P : Program} {w : World} {K : PySem.W.Frag} {mg : Str → Option Value} {g0 : Heap} {k : Nat} {f : Addr} {fd : FuncData} {ps : List Str} {sp : Sp} (F : FnOk P w K mg g0 CX0 k f fd ps sp) (b : Binds K fd ps []) : FnR P w K mg g0 CX0 k f sp :=
  (F.raw b .nil).imp fun vs H Q E h => by rw [List.append_nil]; exact h
/-- a def whose defaults are keyword-only, as the top leaves it -/
theorem funK_mk {K : PySem.W.Frag} {x qual : Str} {params : Arguments} {body : List Stmt} {scope : Scope} {kws : List (Str × V)} {f D : Addr} {oc doc pm cdv ct : Value} {od an : Option Addr} {osl : Array (Option Value)}
    (l : K.lookup f = some ⟨oc, od, .func (PySem.W.fnOf x qual params body scope .none (.ref D) doc pm an cdv ct), osl⟩) (c : PySem.W.codeIn K cdv qual = true) (k : PySem.W.keepIn K (.ref f) = true)
    (hq : ∀ q ∈ kws, ∃ u, PySem.W.nsIn K D q.1 = some (some u) ∧ RelV q.2 u) : FunD K x qual params body scope [] kws f (PySem.W.fnOf x qual params body scope .none (.ref D) doc pm an cdv ct) :=
  ⟨⟨_, _, _, _, _, _, _, _, _, _, rfl, l, c, .inl ⟨rfl, rfl⟩, .inr ⟨D, rfl, hq⟩⟩, k⟩
end Own

set_option Elab.async false
set_option maxRecDepth 100000
/-! == and x[k] by a class's own __eq__, __getitem__ -/
namespace Own
open PySem PySem.Spec PyProof.Rows L2

/-- what kind of thing a value is -/
def Kind (K : PySem.W.Frag) (C : Addr) (H : Hp) (y : V) : Prop := y = .non ∨ (∃ b, y = .bl b) ∨ (∃ i, y = .int i) ∨ (∃ z, y = .str z) ∨ (∃ p xs, y = .ref p ∧ SqL K H p xs) ∨ (∃ p xs, y = .ref p ∧ SqT K H p xs) ∨
  (∃ p kvs, y = .ref p ∧ H p = some (.dK kvs)) ∨ ∃ p dx fs, y = .ref p ∧ H p = some (.ins C dx fs)
/-- K's word: none of the builtin kinds comes ahead of the class at C -/
structure NotAhead (K : PySem.W.Frag) (C : Addr) : Prop where
  non : PySem.W.notFirst K C (.type "NoneType") = true
  bl : PySem.W.notFirst K C (.type "bool") = true
  int : PySem.W.notFirst K C (.type "int") = true
  str : PySem.W.notFirst K C (.type "str") = true
  lst : PySem.W.notFirst K C (.type "list") = true
  tup : PySem.W.notFirst K C (.type "tuple") = true
  dct : PySem.W.notFirst K C (.type "dict") = true

section
variable {X : Cx} {Z : CXT} {k : Nat} {C f : Addr} {sp : Sp} {E : XK}
theorem looks_type {M : Model} {s : Shared} {a : Addr} {o : Obj} {T : String} (h : s.heap.get? a = some o) (c : o.cls = .type T) : PySem.W.Looks M s.heap (typeOf (.ref a)) (.type T) :=
  c ▸ (PySem.W.Looks.ld h).andThen .now
theorem kind_looks {M : Model} {pins : List (Addr × Obj)} {σ : L2.St} {H : Hp} {s : Shared} {y : V} {u : Value} (I : Inv X pins σ H s) (n : NotAhead X.K C) (h : Kind X.K C H y) (r : RelV y u) :
    ∃ tb, PySem.W.Looks M s.heap (typeOf u) tb ∧ PySem.W.notFirst X.K C tb = true := by
  rcases h with rfl | ⟨b, rfl⟩ | ⟨i, rfl⟩ | ⟨z, rfl⟩ | ⟨p, xs, rfl, q⟩ | ⟨p, xs, rfl, q⟩ | ⟨p, kvs, rfl, q⟩ | ⟨p, dx, fs, rfl, q⟩
  · cases r; exact ⟨_, .now, n.non⟩
  · cases r; exact ⟨_, .now, n.bl⟩
  · obtain ⟨t, rfl⟩ := r; exact ⟨_, .now, n.int⟩
  · obtain ⟨t, rfl⟩ := r; exact ⟨_, .now, n.str⟩
  · cases r
    obtain ⟨its, _, ⟨o, n2, ho, hc, _⟩, _⟩ := I.list q
    exact ⟨_, looks_type ho hc, n.lst⟩
  · cases r
    obtain ⟨its, _, ho, _⟩ := I.tuple q
    obtain ⟨o, ho, hc, _⟩ := ho
    exact ⟨_, looks_type ho hc, n.tup⟩
  · cases r
    obtain ⟨o, ho, hc⟩ := (isD_at I (.inl ⟨kvs, .of q⟩)).1
    exact ⟨_, looks_type ho hc, n.dct⟩
  · cases r
    obtain ⟨mA, O, _⟩ := ins_get I.hok q
    obtain ⟨od, J, _⟩ := O.look
    exact ⟨_, J.type, by simp [PySem.W.notFirst]⟩
/-- x == y, x an object with an own __eq__ that tells True or False -/
def rEqO (K : PySem.W.Frag) (C : Addr) (sp : Sp) (E : XK) : R2 := fun x y H Q => ∃ a dx fs, x = .ref a ∧ H a = some (.ins C dx fs) ∧ Kind K C H y ∧ sp [.ref a, y] H (fun v H' => ∃ b, v = .bl b ∧ Q (.bl b) H') E
theorem op_eqO (hs : PySem.W.findIn X.K (.ref C) "__eq__" = some (some (.ref f))) (hf : PySem.W.isFn X.K (.ref f) = true) (n : NotAhead X.K C) (F : FnR X.prog X.w X.K X.mg X.base Z k f sp) (room : Room k X.A) (px : Passes Z X E) :
    OpR X (compareOp .Eq) (rEqO X.K C sp E) := by
  intro pins s σ H x y v u Q I rx ry h
  obtain ⟨a, dx, fs, rfl, ea, ky, q⟩ := h
  obtain rfl : v = Value.ref a := rx
  obtain ⟨mA, O, _⟩ := ins_get I.hok ea
  obtain ⟨od, J, _⟩ := O.look
  obtain ⟨tb, lt, nf⟩ := kind_looks I n ky ry
  obtain ⟨m, fr⟩ := I.fr
  show wpAny (model X.prog X.w) X.A (richCompare .Eq (.ref a) u) (EP X pins σ Q) X.xe s
  refine PySem.W.cmp_K (op := .Eq) room.units0 fr I.ok.mod.kin J lt nf hs hf (wpAny_call (codeAny_mono (run_fnR (us := [.ref a, u]) (vs := [.ref a, y]) F room px I (.cons rfl (.cons ry .nil)) q) fun r s' z => ?_))
  match r, z with
  | .error e, z => exact z
  | .ok .next, z => exact z.elim
  | .ok .brk, z => exact z.elim
  | .ok .cont, z => exact z.elim
  | .ok (.ret w), z =>
    obtain ⟨v, H', I', rv, b, rfl, q'⟩ := z
    cases rv
    exact ⟨.bl b, H', I', rfl, q'⟩
end

/-! ### x[k] by an own __getitem__ -/
section
variable {X : Cx} {Z : CXT} {k : Nat} {C f : Addr} {sp : Sp} {E : L2.St → XK} {o i : Expr} {ta tb : TE} {pos : Pos}
def tIxO (C : Addr) (sp : Sp) (E : L2.St → XK) (ta tb : TE) : TE := fun σ H Q => ta σ H fun x H1 => tb σ H1 fun y H2 => ∃ a dx fs, x = .ref a ∧ H2 a = some (.ins C dx fs) ∧ sp [.ref a, y] H2 Q (E σ)
theorem pe_ixO (hs : PySem.W.findIn X.K (.ref C) "__getitem__" = some (some (.ref f))) (hf : PySem.W.isFn X.K (.ref f) = true) (hq : PySem.W.fnIn X.K f = true)
    (F : FnR X.prog X.w X.K X.mg X.base Z k f sp) (room : Room (k + 1) X.A) (px : ∀ σ, PassesAt Z X σ (E σ)) (po : PE X o ta) (pi : PE X i tb)
    (pl : ∀ v u, subscripted i true v u = runValue (.builtin "lifetime.subscript" ⟨[v, u], []⟩) := by intro _ _; rfl) : PE X (.Subscript o i pos) (tIxO C sp E ta tb) := by
  constructor
  intro pins s σ H Q I h
  refine Subscript_ (binT po pi I h fun v u s2 x y H2 I2 rx ry q => ?_)
  obtain ⟨a, dx, fs, rfl, ea, q⟩ := q
  obtain rfl : v = Value.ref a := rx
  obtain ⟨mA, O, _⟩ := ins_get I2.hok ea
  obtain ⟨od, J, _⟩ := O.look
  obtain ⟨m, fr⟩ := I2.fr
  refine PySem.W.sub_K fr I2.ok.mod.kin J hs hq hf (wpAny_call (codeAny_mono (F X.A.in1 X.stack s2 H2 [.ref a, u] [.ref a, y] Q (E σ) room.in1 I2.env0.in1 (.cons rfl (.cons ry .nil)) q) fun r s' z => ?_)) (pl _ _)
  match r, z with
  | .error e, z => exact px σ pins H2 s2 e s' I2 z
  | .ok (.ret w), z => exact I2.after z
  | .ok .next, z => exact z.elim
  | .ok .brk, z => exact z.elim
  | .ok .cont, z => exact z.elim
end
end Own

set_option Elab.async false
set_option maxRecDepth 100000
/-! for k, x in enumerate(t), t a tuple -/
namespace Own
open PySem PySem.Spec PyProof.Rows L2
open AutoSeq1 (wpAny_loadPart')

set_option maxHeartbeats 1000000 in
theorem enum_made {t : Addr} {items : Array Value} : Meets (Builtin.«enumerate.__new__» ⟨[.type "enumerate", .ref t], []⟩) (fun _ R s => s.heap.IsTuple t items ∧
    R (.ok (.ret (.ref (s.heap.push { cls := .type "tuple_iterator", data := .fields #[.ref t, .int 0 0] }).objs.size)))
      { s with heap := (s.heap.push { cls := .type "tuple_iterator", data := .fields #[.ref t, .int 0 0] }).push { cls := .type "enumerate", data := .fields #[.none, .bool false, .ref s.heap.objs.size, rawInt 0, .none, .none] } }) := by
  refine .of_wp fun prog w A R s h => ?_
  obtain ⟨hp, g, d, tk, os⟩ := s
  obtain ⟨ht, h⟩ := h
  have hsub := sub_enumerate
  have go : ∀ {A' : Around} {E : Value → Shared → Prop} {Q : Value → Shared → Prop}, Q (.ref hp.objs.size) ⟨hp.push { cls := .type "tuple_iterator", data := .fields #[.ref t, .int 0 0] }, g, d, tk, os⟩ → wpAny (model prog w) A' (pyIter (.ref t)) Q E ⟨hp, g, d, tk, os⟩ :=
    fun {A' E Q} q => (begins_tuple t items).iter prog w A' E ⟨hp, g, d, tk, os⟩ Q ht q
  wp_walk using go
  refine wpAny_stack_any fun st => wpAny_pure ?_
  split
  · rename_i c _ _ _ _ _
    cases (c == Value.type "enumerate") <;> (wp_walk using go; exact ⟨_, rfl, h⟩)
  · wp_walk using go
    exact ⟨_, rfl, h⟩
theorem call_enumT {P : Program} {w : World} {A : Around} {E : Value → Shared → Prop} {s : Shared} {t : Addr} {items : Array Value} {Q : Value → Shared → Prop} (ht : s.heap.IsTuple t items)
    (h : ∀ h', IsEnum h' (s.heap.objs.size + 1) s.heap.objs.size 0 .none → h'.IsTupleIter s.heap.objs.size t 0 → (∀ b o, s.heap.get? b = some o → h'.get? b = some o) → Q (.ref (s.heap.objs.size + 1)) { s with heap := h' }) :
    wpAny (model P w) A (call (.type "enumerate") [.ref t]) Q E s := by
  refine callType_new F.called_enumerate (by decide) (F.typeCall_enumerate_1 _) (F.newCall_enumerate_1 _) (fun obj => F.args_object_init_2 obj _) F.entry_enumerate_new (enum_made (items := items)) ⟨ht, ?_⟩
  let itO : Obj := { cls := .type "tuple_iterator", data := .fields #[.ref t, .int 0 0] }
  let enO : Obj := { cls := .type "enumerate", data := .fields #[.none, .bool false, .ref s.heap.objs.size, rawInt 0, .none, .none] }
  have z : (s.heap.push itO).objs.size = s.heap.objs.size + 1 := Heap.size_push ..
  have e : ((s.heap.push itO).push enO).get? (s.heap.objs.size + 1) = some enO := z ▸ Heap.get?_push_size (s.heap.push itO) (o := enO) rfl
  show (∃ o, ((s.heap.push itO).push enO).get? (s.heap.push itO).objs.size = some o ∧ o.cls = .type "enumerate") ∧ Q (.ref (s.heap.push itO).objs.size) _
  rw [z]
  exact ⟨⟨_, e, rfl⟩, h _ e ⟨itO, Heap.get?_push_of_some _ (Heap.get?_push_size _ rfl), rfl, rfl⟩ fun b o x => Heap.get?_push_of_some _ (Heap.get?_push_of_some _ x)⟩
/-- the tuple at a, each item in a new pair -/
def IteT (K : PySem.W.Frag) (a : Addr) : It :=
  ⟨fun i H => ∃ (xs : List V) (x : V), SqT K H a xs ∧ xs[i]? = some x, fun i H v H' => ∃ T x, v = .ref T ∧ H T = none ∧ H' = upd H T (.tup [.int (i : Nat), x]) ∧ ∀ xs, SqT K H a xs → xs[i]? = some x, fun i H => ∃ xs : List V, SqT K H a xs ∧ xs.length = i⟩
theorem turn_enumT {P : Program} {w : World} {K : PySem.W.Frag} {elts : List Expr} {kk : Nat} {tpos : Pos} (a e it : Addr) :
    Turn P w K (.Tuple elts kk tpos) (IteT K a) [e, it] e (fun i h => (∃ old, IsEnum h e it ((i : Nat) : Int) old) ∧ h.IsTupleIter it a i ∧ e ≠ it ∧ a ≠ it ∧ a ≠ e) where
  mem := List.mem_cons_self
  obj := by
    rintro i h ⟨⟨old, he⟩, ⟨o, ho, _, hd⟩, _⟩ b hb
    rcases List.mem_cons.mp hb with rfl | hb
    · exact ⟨_, he, fun v q => by cases q⟩
    · rw [List.mem_singleton.mp hb]
      exact ⟨o, ho, fun v q => by rw [hd] at q; cases q⟩
  keep := by
    rintro i h h' ⟨⟨old, he⟩, hi, r⟩ k
    exact ⟨⟨old, k e (by simp) _ he⟩, hi.at fun o q => k it (by simp) o q, r⟩
  item := by
    intro X hP hw hK hc i pins s σ H E I hf st hg
    subst hP hw hK
    obtain ⟨⟨old, he⟩, hit, n1, n2, n3⟩ := st
    obtain ⟨xs, x, hq, hx⟩ := hg
    obtain ⟨its, rv, p, _⟩ := I.tuple hq
    obtain ⟨u, hu, ru⟩ := rv.get hx
    have li : i < its.toArray.size := by
      have z := (List.getElem?_eq_some_iff.mp hu).1
      simpa using z
    have lte : e < s.heap.objs.size := Heap.lt_size he
    have lti : it < s.heap.objs.size := let ⟨_, q, _⟩ := hit; Heap.lt_size q
    refine wpAny_pyNext_enum_itemD (Draws.tuple (A := X.A.in1) (I.ok.hd hc) it a n2 its.toArray) he ⟨hit, p⟩ li n1 (fun z => by
      rcases List.mem_cons.mp z with z | z
      · exact n1 z
      · exact n3 (List.mem_singleton.mp z).symm) fun y h' tk hy ho st' hT hsz hk => ?_
    have ey : y = u := by
      have z : its[i]? = some y := by simpa using hy
      rw [hu] at z
      exact (Option.some.inj z).symm
    subst ey
    refine ⟨_, rfl, wpAny_letOwnedTupleGo_enum (s := { s with heap := h', toks := tk + 1 }) ho fun h'' he' sb => ?_⟩
    have T2 : h''.get? s.heap.objs.size = some { cls := .type "tuple", data := .seq #[.int i tk, y] } := (sb.2 _ (Nat.ne_of_gt lte)).trans hT
    have ok : ObjOk X.prog X.w (upd H s.heap.objs.size (.tup [.int (i : Nat), x])) h'' s.heap.objs.size (.tup [.int (i : Nat), x]) := ⟨by show 2 ≤ sizeLine; decide, [.int i tk, y], .cons ⟨_, rfl⟩ (.cons ru .nil), ⟨_, T2, rfl, _, rfl⟩⟩
    have I1 : Inv X pins σ (upd H s.heap.objs.size (.tup [.int (i : Nat), x])) { s with heap := h'', toks := tk + 1 } :=
      I.turnedNew (ch := [e, it]) (fun b ob hb q => (sb.2 b fun z => hb (by simp [z])).trans (hk b ob (fun z => hb (by simp [z])) (fun z => hb (by simp [z])) q)) hf (Nat.le_refl _) ok
    refine ⟨.ref s.heap.objs.size, _, I1, rfl, ⟨_, x, rfl, I.hok.fresh (Nat.le_refl _), rfl, fun ys hy => ?_⟩, ⟨⟨y, ?_⟩, st'.1.at fun o q => (sb.2 it (Ne.symm n1)).trans q, n1, n2, n3⟩, fun b hb => ?_⟩
    · rw [I.tuple_inj hy hq]
      exact hx
    · rw [show ((i + 1 : Nat) : Int) = (i : Int) + 1 from by omega]
      exact he'
    · have lb : b < s.heap.objs.size := by
        rcases List.mem_cons.mp hb with rfl | hb
        · exact lte
        · rw [List.mem_singleton.mp hb]; exact lti
      rw [upd_ne (Nat.ne_of_lt lb)]
      exact (hf b hb).1
  done := by
    intro X hP hw hK hc i pins s σ H E I hf st hg
    subst hP hw hK
    obtain ⟨⟨old, he⟩, hit, n1, n2, n3⟩ := st
    obtain ⟨xs, hq, rfl⟩ := hg
    obtain ⟨its, rv, p, _⟩ := I.tuple hq
    have ls : its.toArray.size = xs.length := by rw [List.size_toArray, ← rv.length]
    have st2 : s.heap.IsTupleIter it a its.toArray.size ∧ s.heap.IsTuple a its.toArray := by rw [ls]; exact ⟨hit, p⟩
    obtain ⟨f0, f1, f2, f3, f4, f5⟩ := hf it (by simp)
    exact wpAny_pyNext_enum_endD (Draws.tuple (A := X.A.in1) (I.ok.hd hc) it a n2 its.toArray) he st2 fun h' eb => ⟨rfl, I.turned (t' := s.toks) (fun b o hb q => eb b o hb q) f0 f1 f3 f4 f5⟩
  self := by
    rintro A i s Q E ⟨⟨_, he⟩, _⟩ h
    exact wpAny_pyIter_enum he h
def iEnumT (K : PySem.W.Frag) (ta : TA) : TI := fun σ H R => ta σ H fun vs H1 => ∃ a xs, vs = [.ref a] ∧ SqT K H1 a xs ∧ R (IteT K a) H1
theorem pi_enumT {X : Cx} {e : Expr} {ta : TA} {p pos tpos : Pos} {elts : List Expr} {kk : Nat} (hg : Gl X "enumerate") (hm : X.mg "enumerate" = none) (ha : PA X [e] ta) (hs : starEach [e] X.env = [(false, eval e X.env)] := by rfl) :
    PI X (.Tuple elts kk tpos) (.Call (.Name "enumerate" p) [e] [] pos) (iEnumT X.K ta) := by
  constructor
  intro pins s σ H R I h
  refine Call_ (ld_blt I hg hm boot_enumerate (PyProof.Rows.callWith_type1 (thn (ha.run pos pins s σ H _ I h) fun us s1 ⟨vs, H1, I1, r1, a, xs, ex, hq, q⟩ => ?_) hs rfl))
  subst ex
  obtain ⟨u, rfl, ru⟩ : ∃ u, us = [u] ∧ RelV (.ref a) u := by
    cases r1 with
    | cons x y => cases y; exact ⟨_, rfl, x⟩
  obtain rfl : u = Value.ref a := ru
  obtain ⟨its, rv, pt, _⟩ := I1.tuple hq
  have lt : a < s1.heap.objs.size := let ⟨o, ho, _⟩ := pt; Heap.lt_size ho
  refine call_enumT pt fun h' he hit hk => wpAny_pyIter_enum he ?_
  refine ⟨s1.heap.objs.size + 1, [s1.heap.objs.size + 1, s1.heap.objs.size], _, _, H1, rfl, I1.kept (t' := s1.toks) hk, turn_enumT a (s1.heap.objs.size + 1) s1.heap.objs.size, ⟨⟨.none, he⟩, hit, Nat.succ_ne_self _, Nat.ne_of_lt lt, Nat.ne_of_lt (Nat.lt_succ_of_lt lt)⟩, fun b hb => ?_, q⟩
  have le : s1.heap.objs.size ≤ b := by
    rcases List.mem_cons.mp hb with rfl | hb
    · exact Nat.le_succ _
    · rw [List.mem_singleton.mp hb]; exact Nat.le_refl _
  exact I1.fpOk le (I1.hok.fresh le)
section
variable {K : PySem.W.Frag} {a b : Addr} {xs ys : List V}
theorem walk_enumT : Walk (IteT K a) xs.length (fun H => SqT K H a xs) (YPair (fun i => some (.int (i : Nat))) (fun i => xs[i]?)) :=
  ⟨fun i H h q => ⟨xs, xs[i], q, List.getElem?_eq_getElem h⟩, fun H q => ⟨xs, q, rfl⟩, fun i H x H' _ q ⟨T, y, e1, e2, e3, e4⟩ => ⟨T, _, y, e1, e2, e3, rfl, e4 xs q⟩⟩
end
/-- s * n, s a text -/
def rRepS : R2 := fun x y H Q => ∃ (z : Str) (n : Int), x = .str z ∧ y = .int n ∧ z.length ≤ 1000 ∧ n ≤ 1000 ∧ -1000 ≤ n ∧ Q (.str (Txt.mul z n)) H
theorem op_repS {X : Cx} : OpR X (binaryOp .Mult) rRepS := by
  intro pins s σ H x y v u Q I rx ry h
  obtain ⟨z, n, rfl, rfl, hz, hn, hn0, q⟩ := h
  obtain ⟨t, rfl⟩ := rx
  obtain ⟨t', rfl⟩ := ry
  have ok : MulOk z n := by
    refine ⟨?_, fun h1 _ => ?_, fun h1 _ => ?_⟩
    · rw [Bool.or_eq_false_iff]
      exact ⟨decide_eq_false (by omega), decide_eq_false (by omega)⟩
    · have h2 : (1000 : Int) ≤ (2 ^ 63 - 1) / n := by
        refine (Int.le_ediv_iff_mul_le (by omega)).mpr ?_
        omega
      omega
    · show decide (z.length * n.toNat > sizeLine) = false
      have h3 : z.length * n.toNat ≤ 1000 * 1000 := Nat.mul_le_mul hz (by omega)
      refine decide_eq_false ?_
      rw [sizeLine_eq]
      omega
  exact SB.mul ok fun t2 k => ⟨.str _, H, I.tok _, ⟨_, rfl⟩, q⟩
end Own

set_option Elab.async false
set_option maxRecDepth 100000
/-! set(d), d a dict whose keys are ints -/
namespace Own
open PySem PySem.Spec PyProof.Rows L2

/-- the entries of a dict of ints -/
def IntEntries (es : Array DictEntry) (ns : List Int) : Prop := es.size = ns.length ∧ ∀ (i : Nat) (e : DictEntry), es[i]? = some e → ∃ k t, ns[i]? = some k ∧ e.key = Value.int k t ∧ e.hash = hashInt k

theorem laid_nil (mask f mv : Nat) (l p : Bool) : SetTable.laid mask f mv l p #[] = some ({ mask, place := #[], dummies := #[], finger := f, led := l, moves := mv, plain := p }, #[]) := by
  have e : ∀ j : Nat, j < mask + 1 → ((Array.replicate (mask + 1) (none : Option Nat))[j]?).getD none = none := by
    intro j hj
    simp [hj]
  unfold SetTable.laid SetTable.layClean
  simpa using e
theorem fits_nil (mask f mv : Nat) (l p : Bool) : SetTable.fits { mask, place := #[], dummies := #[], finger := f, led := l, moves := mv, plain := p } 0 = true := by
  unfold SetTable.fits
  simp [SetTable.fill]
theorem relay_sizes : ∀ m : Nat, m < 128 → ¬ SetTable.sizeAbove (m * 2) > sizeLine := by
  have z : ∀ m : Nat, m < 128 → SetTable.sizeAbove (m * 2) ≤ 512 := by decide +kernel
  intro m hm h
  rw [sizeLine_eq] at h
  have := z m hm
  omega

section
variable {P : Program} {w : World} {A : Around} {E : Value → Shared → Prop} {s : Shared}
abbrev setO0 (w : World) : Obj := { cls := .type "set", dict := none, data := .set #[] 0 (.fresh 0 0 (!w.params.followText "set-order")) }
theorem room_for {S : Addr} {m : Nat} {Q : Unit → Shared → Prop} (hm : m < 128) (hS : s.heap.get? S = some (setO0 w))
    (h : ∀ h', Heap.SameBut S s.heap h' → SetR w h' S (fun _ => false) 0 → Q () { s with heap := h' }) :
    wpAny (model P w) A (match (SetTable.fresh 0 0 (!w.params.followText "set-order")).roomFor m with | some wanted => setRelay S wanted | _ => pure ()) Q E s := by
  have fit : (SetTable.fresh 0 0 (!w.params.followText "set-order")).fits (#[] : Array (Int × Value)).size = true := fits_nil _ _ _ _ _
  have R0 := setR_new_at (w := w) (ns := []) hS
  have led : w.params.followText "set-order" = true ∨ (!w.params.followText "set-order") = true := by
    cases w.params.followText "set-order" <;> simp
  unfold SetTable.roomFor
  split
  · rename_i wanted hw
    split at hw
    · have hw2 : wanted = m * 2 := by
        have z := Option.some.inj hw
        rw [← z]
        show (0 + m) * 2 = m * 2
        omega
      subst hw2
      unfold setRelay
      refine wpAny_bind (wpAny_setState_of hS rfl fit ?_)
      dsimp only
      rw [if_neg (relay_sizes m hm)]
      unfold SetTable.relaid
      rw [show (Array.map (fun x => x.fst) (#[] : Array (Int × Value))) = #[] from by simp, laid_nil]
      refine wpAny_bind (wpAny_pure ?_)
      show wpAny _ _ (storeSet S #[] { mask := SetTable.sizeAbove (m * 2) - 1, place := #[], dummies := #[], finger := 0, led := !w.params.followText "set-order", moves := (SetTable.fresh 0 0 (!w.params.followText "set-order")).movedTo (SetTable.sizeAbove (m * 2) - 1), plain := true }) _ _ _
      refine wpAny_storeSet_of hS rfl ?_ (fits_of_scanBound (by decide))
      refine h _ (Heap.SameBut.update s.heap S _) ?_
      have ho := store_at (es' := #[]) (t' := { mask := SetTable.sizeAbove (m * 2) - 1, place := #[], dummies := #[], finger := 0, led := !w.params.followText "set-order", moves := (SetTable.fresh 0 0 (!w.params.followText "set-order")).movedTo (SetTable.sizeAbove (m * 2) - 1), plain := true }) hS rfl
      exact ⟨_, #[], _, _, ho, ⟨rfl, rfl, rfl⟩, rfl, fun e he => by simp at he, by simp, fun k => by simp, by decide, fits_nil _ _ _ _ _, rfl, .nil, led⟩
    · cases hw
  · refine wpAny_pure ?_
    have z := h s.heap (Heap.SameBut.refl S s.heap) (R0.congr fun k => by simp)
    exact z
theorem upd_dict {S d : Addr} {o : Obj} {es : Array DictEntry} {ep : Nat} {ns : List Int} {Q : Unit → Shared → Prop} (ho : s.heap.get? d = some o) (hex : o.ExactDict) (hd : o.data = .dict es ep) (hne : d ≠ S)
    (hsys : (d == sysModules) = false) (ie : IntEntries es ns) (hl : ns.length < 128) (hS : s.heap.get? S = some (setO0 w))
    (h : ∀ h' tk c, SetR w h' S (fun j => decide (j ∈ ns)) c → c ≤ ns.length → Heap.SameBut S s.heap h' → Q () { s with heap := h', toks := tk }) :
    wpAny (model P w) A (Builtin.Frozenset.updateFrom "set.__init__" S (.ref d)) Q E s := by
  have f1 := F.sub_dict_set
  have f2 := F.sub_dict_frozenset
  obtain ⟨ocls, odict, odata, oslots⟩ := o
  obtain ⟨e1, e2, e3⟩ := hex
  simp only at e1 e2 e3 hd
  subst e1 e2 e3 hd
  have hb : ns.length < scanBound := by
    have : scanBound = 4096 := rfl
    omega
  unfold Builtin.Frozenset.updateFrom
  wp_walk
  refine room_for (by rw [ie.1]; exact hl) hS fun h1 sb1 R1 => ?_
  have hg : ∀ {h2 : Heap}, Heap.SameBut S s.heap h2 → h2.get? d = some { cls := .type "dict", dict := none, data := .dict es ep, slots := #[] } := fun sb => (sb.2 d hne).trans ho
  refine wpAny_bind (wpAny_dictEntries (hg sb1) rfl (wpAny_bind ?_))
  refine PySem.SeqAt.wpAny_forIn_span 0 es.size _ (fun i _ s' => ∃ h' tk c, s' = { s with heap := h', toks := tk } ∧ c ≤ i ∧ i ≤ es.size ∧ Heap.SameBut S s.heap h' ∧ SetR w h' S (fun j => decide (j ∈ ns.take i)) c) _ ?_ ?_ _
    ⟨h1, _, 0, rfl, Nat.le_refl _, Nat.zero_le _, sb1, R1.congr fun k => by simp⟩
  · rintro i _ s' _ hi ⟨h', tk, c, rfl, hc, _, sb, R⟩
    refine wpAny_bind (wpAny_dictEntries (hg sb) rfl ?_)
    have he : es[i]? = some es[i] := Array.getElem?_eq_getElem hi
    obtain ⟨k, t, hk, ek, eh⟩ := ie.2 i _ he
    rw [he]
    dsimp only
    refine wpAny_bind (wpAny_holding ?_)
    rw [ek, eh]
    have hlt : c + 1 < scanBound := by
      have : scanBound = 4096 := rfl
      have := ie.1
      omega
    refine setR_add_hashed (s := { s with heap := h', toks := tk }) R hlt fun h2 sb2 R2 => ?_
    refine wpAny_bind (wpAny_dictEpoch (hg (sb.trans sb2)) rfl ?_)
    rw [if_neg (by simp)]
    refine wpAny_pure ?_
    have hc3 : (if decide (k ∈ ns.take i) = true then c else c + 1) ≤ i + 1 := by
      split <;> omega
    refine ⟨h2, tk, _, rfl, hc3, hi, sb.trans sb2, R2.congr fun j => ?_⟩
    rw [List.take_add_one, hk]
    simp [List.mem_append]
  · rintro _ s' ⟨h', tk, c, rfl, hc, _, sb, R⟩
    rw [Nat.zero_max] at hc R
    refine wpAny_pure (h h' tk c (R.congr fun j => ?_) (by rw [← ie.1]; exact hc) sb)
    rw [List.take_of_length_le (by rw [ie.1]; exact Nat.le_refl _)]

set_option maxHeartbeats 3200000 in
theorem call_set_dict {d : Addr} {o : Obj} {es : Array DictEntry} {ep : Nat} {ns : List Int} {Q : Value → Shared → Prop} (ho : s.heap.get? d = some o) (hex : o.ExactDict) (hd : o.data = .dict es ep)
    (hsys : (d == sysModules) = false) (ie : IntEntries es ns) (hl : ns.length < 128)
    (h : ∀ h' tk c, SetR w h' s.heap.objs.size (fun j => decide (j ∈ ns)) c → c ≤ ns.length → (∀ b o, s.heap.get? b = some o → h'.get? b = some o) → Q (.ref s.heap.objs.size) { s with heap := h', toks := tk }) :
    wpAny (model P w) A (call (.type "set") [.ref d]) Q E s := by
  let n0 := s.heap.objs.size
  let hp0 := s.heap.push (setO0 w)
  have hnew : hp0.get? n0 = some (setO0 w) := Heap.get?_push_size _ rfl
  have hold : ∀ b o, s.heap.get? b = some o → hp0.get? b = some o := fun b o e => Heap.get?_push_of_some _ e
  have hne : d ≠ n0 := Nat.ne_of_lt (Heap.lt_size ho)
  have ty0 : Shared.TypeIs { s with heap := hp0 } (.ref n0) "set" := ⟨_, hnew, rfl⟩
  obtain ⟨c, tl, hmro⟩ := F.called_set.mro
  have m1 := F.called_set.made
  have m2 := F.called_set.sub
  have m3 := F.called_set.notType
  have m4 := F.called_set.canCreate
  have m5 := F.typeCall_set_1 (.ref d)
  have m6 := F.called_set.init.lookup
  have m7 := F.called_set.init.bind (.ref n0)
  refine wpAny_call (codeAny_of_tree ?_)
  show wpAny _ _ (callAny (.type "set") _) _ _ _
  refine wpAny_pure ⟨Code.quiet_builtin _ (by decide +kernel), codeAny_builtin F.entry_type_call ?_⟩
  rw [Around.under_plain (weight_type_call_type "set" [.ref d] []) rfl]
  repeat (any_goals (first | assumption | wp_step))
  refine codeAny_mono (code_set_led1 (.ref d) (E := E) (Q₁ := fun r s1 => r = .ref n0 ∧ s1 = { s with heap := hp0 }) ⟨rfl, rfl⟩) fun r s1 hr => ?_
  match r, hr with
  | .error e, hr => exact hr
  | .ok .next, hr => exact hr.elim
  | .ok .brk, hr => exact hr.elim
  | .ok .cont, hr => exact hr.elim
  | .ok (.ret u), hr =>
    obtain ⟨rfl, rfl⟩ := hr
    repeat (any_goals (first | assumption | wp_step))
    refine codeAny_mono (codeAny_call_builtin (R := wants (fun r s2 => r = .none ∧ ∃ h' tk c, s2 = { s with heap := h', toks := tk } ∧ SetR w h' n0 (fun j => decide (j ∈ ns)) c ∧ c ≤ ns.length ∧ Heap.SameBut n0 hp0 h') E)
      F.called_set.init.plain F.entry_set_init (check_set_init_1 ty0 ?_)) fun r2 s2 hr2 => ?_
    · unfold Builtin.«set.__init__» noKeywords
      generalize hU : Builtin.Frozenset.updateFrom = U
      wp_walk
      subst hU
      refine upd_dict (s := { s with heap := hp0 }) (hold _ _ ho) hex hd hne hsys ie hl hnew fun h' tk c R hc sb => ?_
      exact wpAny_pure ⟨rfl, h', tk, c, rfl, R, hc, sb⟩
    · match r2, hr2 with
      | .error e, hr2 => exact hr2
      | .ok .next, hr2 => exact hr2.elim
      | .ok .brk, hr2 => exact hr2.elim
      | .ok .cont, hr2 => exact hr2.elim
      | .ok (.ret u), hr2 =>
        obtain ⟨rfl, h', tk, c, rfl, hR, hc, sb⟩ := hr2
        repeat (any_goals (first | assumption | wp_step))
        exact h _ _ _ hR hc fun b o e => (sb.2 b (Nat.ne_of_lt (Heap.lt_size e))).trans (hold b o e)
end
section
variable {X : Cx}
theorem intEntries_of {P : Program} {w : World} : ∀ {es : List DictEntry} {vs : List (Key × Value)} {ns : List Int}, Pairs (mixKind P w) es vs → (∀ e ∈ es, ∃ k, (mixKind P w).is k e.key = true ∧ e.hash = (mixKind P w).hash k) →
    vs.map (·.1) = ns.map Sum.inl → IntEntries es.toArray ns
  | [], [], [], _, _, _ => ⟨rfl, fun i e h => by simp at h⟩
  | [], [], _ :: _, _, _, h => by simp at h
  | e :: es, kv :: vs, [], _, _, h => by simp at h
  | e :: es, kv :: vs, n :: ns, .cons hk _ r, hh, h => by
    rw [List.map_cons, List.map_cons] at h
    obtain ⟨h1, h2⟩ := List.cons.inj h
    obtain ⟨z1, z2⟩ := intEntries_of r (fun e he => hh e (List.mem_cons_of_mem _ he)) h2
    refine ⟨by simp only [List.size_toArray, List.length_cons] at z1 ⊢; omega, fun i x hx => ?_⟩
    cases i with
    | zero =>
      have ex : e = x := by simpa using hx
      subst ex
      obtain ⟨k, hk2, hh2⟩ := hh e (List.mem_cons_self ..)
      have ek : k = kv.1 := (mixKind P w).inj _ _ _ hk2 hk
      rw [ek, h1] at hh2
      rw [h1] at hk
      have hk' : keyIs (Sum.inl n) e.key = true := hk
      rcases keyIs_shape hk' with ⟨i, t, e1, e2⟩ | ⟨x, t, e1, _⟩
      · obtain rfl := Sum.inl.inj e1
        exact ⟨n, t, rfl, e2, hh2⟩
      · cases e1
    | succ i =>
      have hx' : es.toArray[i]? = some x := by simpa using hx
      obtain ⟨k, t, a, b, c⟩ := z2 i x hx'
      exact ⟨k, t, by simpa using a, b, c⟩
theorem kv_keys : ∀ {kvs : List (Key × V)} {vs : List (Key × Value)}, KV kvs vs → kvs.map (·.1) = vs.map (·.1)
  | _, _, .nil => rfl
  | _, _, .cons a r => by
    rw [List.map_cons, List.map_cons, a.1, kv_keys r]
/-- set(d) -/
def rSetD (w : World) : List V → Hp → VK → Prop := fun xs H Q => ∃ (d : Addr) (kvs : List (Key × V)) (ns : List Int), xs = [.ref d] ∧ H d = some (.dK kvs) ∧ kvs.map (·.1) = ns.map Sum.inl ∧ ns.length < 128 ∧
  ∀ p c, H p = none → c ≤ ns.length → Q (.ref p) (upd H p (SetO w p (fun j => decide (j ∈ ns)) c))
theorem call_setD : CallR X (.type "set") (rSetD X.w) := by
  intro pins s σ H xs us Q I r h
  obtain ⟨d, kvs, ns, rfl, hd, hk, hl, q⟩ := h
  obtain ⟨u, rfl, ru⟩ := r.one
  obtain rfl : u = Value.ref d := ru
  obtain ⟨_, hsys, vs, kv, o, es, ep, ho, hex, hdat, hks, hps, _⟩ := I.hok d _ hd
  have e1 : vs.map (·.1) = ns.map Sum.inl := by
    rw [← hk]
    exact (kv_keys kv).symm
  have ie : IntEntries es ns := by
    have z := intEntries_of (es := es.toList) (by exact hps) (fun e he => hks e (by simpa using he)) e1
    simpa using z
  refine call_set_dict ho hex hdat hsys ie hl fun h' tk c R hc keep => ?_
  exact ⟨.ref _, _, I.laid (t' := tk) keep (Nat.le_refl _) (setO_new R), rfl, q _ c (I.hok.fresh (Nat.le_refl _)) hc⟩
end
end Own

set_option Elab.async false
set_option maxRecDepth 100000
/-! set(xs), xs a list or a tuple of texts -/
namespace Own
open PySem PySem.Spec PyProof.Rows L2

/-- how many are met, and whether each for the first time -/
def Cnt (zs : List Str) (c : Nat) : Prop := c ≤ zs.length ∧ (c = zs.length ↔ zs.Nodup)
theorem cnt_nil : Cnt [] 0 := ⟨Nat.le_refl _, by simp⟩
theorem cnt_step {zs : List Str} {z : Str} {c : Nat} (h : Cnt zs c) : Cnt (zs ++ [z]) (if decide (z ∈ zs) = true then c else c + 1) := by
  obtain ⟨h1, h2⟩ := h
  by_cases hz : z ∈ zs
  · rw [if_pos (decide_eq_true hz)]
    refine ⟨by simp; omega, ?_⟩
    rw [List.nodup_append]
    constructor
    · intro e
      simp at e
      omega
    · rintro ⟨_, _, n⟩
      exact absurd rfl (n z hz z (List.mem_singleton.mpr rfl))
  · rw [if_neg (by simpa using hz)]
    refine ⟨by simp; omega, ?_⟩
    rw [List.nodup_append]
    constructor
    · intro e
      refine ⟨h2.mp (by simpa using e), by simp, fun a ha b hb e2 => ?_⟩
      rw [List.mem_singleton.mp hb] at e2
      exact hz (e2 ▸ ha)
    · rintro ⟨n, _, _⟩
      have := h2.mpr n
      simp
      omega
def TxtIn (zs : List Str) : Key → Bool := fun k => match k with | Sum.inl _ => false | Sum.inr z => decide (z ∈ zs)
theorem txtIn_snoc {zs : List Str} {z : Str} : (fun k => TxtIn zs k || decide (k = (Sum.inr z : Key))) = TxtIn (zs ++ [z]) := by
  funext k
  cases k with
  | inl i => simp [TxtIn]
  | inr y => simp [TxtIn, List.mem_append]

section
variable {P : Program} {w : World} {A : Around} {R : Result → Shared → Prop} {it : Addr} {fp wr : List Addr} {G : Array GenState → Array GenState → Prop} {n : Nat} {Pv : Nat → Value → Prop} {St : Nat → Shared → Prop} {zs : List Str}
theorem txt_step {i : Nat} {z : Str} {c : Nat} {h h' : Heap} {S : Addr} (hz : zs[i]? = some z) (hs : h'.SetOf (mixKind P w) S (fun k => TxtIn (zs.take i) k || decide (k = Sum.inr z)) (if TxtIn (zs.take i) (Sum.inr z) = true then c else c + 1)) :
    h'.SetOf (mixKind P w) S (TxtIn (zs.take (i + 1))) (if decide (z ∈ zs.take i) = true then c else c + 1) := by
  rw [List.take_add_one, hz]
  rw [txtIn_snoc] at hs
  exact hs
theorem txt_loop (W : WalksS P w A.in1 it fp wr G n Pv St) (S : Addr) (nS : S ∉ fp) (hn : zs.length = n) (room : n + 1 < scanBound) (val : ∀ i v, Pv i v → ∃ z t, zs[i]? = some z ∧ v = Value.str z t)
    :
    ∀ (left i c : Nat) (s : Shared), n - i = left → i ≤ n → St i s → Cnt (zs.take i) c → s.heap.SetOf (mixKind P w) S (TxtIn (zs.take i)) c →
      (∀ s' c', Moved (S :: wr) G s s' → Cnt zs c' → s'.heap.SetOf (mixKind P w) S (TxtIn zs) c' → R (.ok (.ret .none)) s') →
      codeAny (model P w) A (.builtin "set.update.loop" ⟨[.ref S, .ref it], []⟩) R s := by
  have mw : ∀ b ∈ wr, b ∈ S :: wr := fun b hb => List.mem_cons_of_mem _ hb
  have nw : S ∉ wr := fun z => nS (W.sub _ z)
  have stay : ∀ {s s' : Shared} {p : Key → Bool} {c : Nat}, Moved wr G s s' → s.heap.SetOf (mixKind P w) S p c → s'.heap.SetOf (mixKind P w) S p c := fun m q => setOf_at q fun o e => m.heap S o nw e
  intro left
  induction left with
  | zero =>
    intro i c s hk hi st hc hS k
    obtain rfl : i = n := by omega
    rw [List.take_of_length_le (by omega)] at hc hS
    refine codeAny_builtin F.entry_set_update_loop ?_
    rw [Around.under_plainId F.plain_set_update_loop _]
    refine wpAny_bind (m := pyNext (.ref it)) (W.done s _ _ st fun s' m => ?_)
    exact wpAny_pure (k s' c (m.mono mw) hc (stay m hS))
  | succ left ih =>
    intro i c s hk hi st hc hS k
    refine codeAny_builtin F.entry_set_update_loop ?_
    rw [Around.under_plainId F.plain_set_update_loop _]
    refine wpAny_bind (m := pyNext (.ref it)) (W.item i s _ _ (by omega) st fun v s' hv st' m => ?_)
    obtain ⟨z, t, hz, rfl⟩ := val i v hv
    have hS1 := stay m hS
    refine wpAny_bind (m := holding [Value.str z t] (setAdd S (.str z t))) (wpAny_holding ?_)
    unfold setAdd
    refine wpAny_holding (wpAny_bind ((mixKind P w).pyHash (k := Sum.inr z) (kV_is (k := Sum.inr z) ⟨t, rfl⟩) ?_))
    refine wpAny_setAddHashed_of (knd := mixKind P w) (s := { s' with toks := s'.toks + 1 }) (kV_is (k := Sum.inr z) ⟨t, rfl⟩) rfl hS1 (by have := hc.1; rw [List.length_take] at this; omega) fun h' sb hS2 => ?_
    have hS3 := txt_step (h := s'.heap) hz hS2
    have hc3 : Cnt (zs.take (i + 1)) (if decide (z ∈ zs.take i) = true then c else c + 1) := by
      rw [List.take_add_one, hz]
      exact cnt_step hc
    have off : ∀ b ∈ fp, b ≠ S := fun b hb e => nS (e ▸ hb)
    refine wpAny_pure ⟨plainId_quiet F.plain_set_update_loop _, ih (i + 1) _ _ (by omega) (by omega) (W.frame _ s' _ _ st' (Nat.le_succ _) fun b hb o e => (sb.2 b (off b hb)).trans e) hc3 hS3 fun s2 c2 m2 hc2 hS4 => ?_⟩
    refine k s2 c2 (Moved.trans W.gtrans ((m.mono mw).then_heap (Nat.le_succ _) fun b o hb e => ?_) m2) hc2 hS4
    exact (sb.2 b fun e2 => hb (e2 ▸ List.mem_cons_self)).trans e
end

section
open PySem.W
variable {P : Program} {w : World} {A : Around} {E : Value → Shared → Prop} {s : Shared} {zs : List Str} {l : Addr} {items : Array Value}
theorem txt_vals {its : List Value} (h : Vals (zs.map V.str) its) (i : Nat) (v : Value) (hv : its.toArray[i]? = some v) : ∃ z t, zs[i]? = some z ∧ v = Value.str z t := by
  have hv' : its[i]? = some v := by simpa using hv
  have li : i < zs.length := by
    have := (List.getElem?_eq_some_iff.mp hv').1
    rw [← h.length, List.length_map] at this
    exact this
  obtain ⟨u, hu, ru⟩ := h.get (i := i) (x := V.str zs[i]) (by rw [List.getElem?_map, List.getElem?_eq_getElem li]; rfl)
  rw [hv'] at hu
  obtain rfl := Option.some.inj hu
  obtain ⟨t, rfl⟩ := ru
  exact ⟨_, t, List.getElem?_eq_getElem li, rfl⟩
/-- set.__init__ over an iterator of texts -/
theorem txt_init {S : Addr} {ocl : String} {od : Option Addr} {nn : Nat} {osl : Array (Option Value)} (tyS : ocl = "list" ∨ ocl = "tuple") (hh : A.handled = none) (hol : s.heap.get? l = some { cls := .type ocl, dict := od, data := .seq items nn, slots := osl }) (hS : s.heap.get? S = some (setO0 w)) (ne : l ≠ S)
    (val : ∀ (i : Nat) (v : Value), items[i]? = some v → ∃ z t, zs[i]? = some z ∧ v = Value.str z t) (hn : zs.length = items.size) (room : zs.length ≤ 1000) {Q : Unit → Shared → Prop}
    (h : ∀ h' tk c, Cnt zs c → h'.SetOf (mixKind P w) S (TxtIn zs) c → (∀ b o, b ≠ S → s.heap.get? b = some o → h'.get? b = some o) → Q () { s with heap := h', toks := tk }) :
    wpAny (model P w) A (Builtin.Frozenset.updateFrom "set.__init__" S (.ref l)) Q E s := by
  have a1 := F.sub_list_set
  have a2 := F.sub_list_frozenset
  have a3 := F.sub_tuple_set
  have a4 := F.sub_tuple_frozenset
  have a5 : (Value.type "list" == Value.type "dict") = false := by decide
  have a6 : (Value.type "tuple" == Value.type "dict") = false := by decide
  have S0 : s.heap.SetOf (mixKind P w) S (TxtIn (zs.take 0)) 0 := ⟨_, #[], 0, _, hS, ⟨rfl, rfl, rfl⟩, rfl, (fun e he => by simp at he), (fun k => by cases k <;> simp [TxtIn]), (by decide), (by rfl), rfl⟩
  have lS : S < s.heap.objs.size := Heap.lt_size hS
  have ll : l < s.heap.objs.size := Heap.lt_size hol
  have sb : scanBound = 4096 := rfl
  have done : ∀ (io : Obj) (s' : Shared) (c' : Nat) (G : Array GenState → Array GenState → Prop), (∀ a b, G a b → b = a) → Moved (S :: [s.heap.objs.size]) G { s with heap := s.heap.push io } s' → Cnt zs c' → s'.heap.SetOf (mixKind P w) S (TxtIn zs) c' → Q () s' := by
    intro io s' c' G hG m hc hS'
    obtain ⟨h', g2, d', tk', os'⟩ := s'
    have e1 : g2 = s.gens := hG _ _ m.gens
    have e2 : d' = s.drawn := m.drawn
    have e3 : os' = s.os := m.os
    subst e1 e2 e3
    refine h h' tk' c' hc hS' fun b o hb e => m.heap b o (fun z => ?_) (Heap.get?_push_of_some _ e)
    rcases List.mem_cons.mp z with z | z
    · exact hb z
    · exact Nat.ne_of_lt (Heap.lt_size e) (List.mem_singleton.mp z)
  rcases tyS with rfl | rfl
  · have hl : s.heap.IsList l items := ⟨_, hol, rfl, nn, rfl⟩
    unfold Builtin.Frozenset.updateFrom
    generalize hPI : pyIter = PI
    wp_walk
    subst hPI
    refine wpAny_pyIter_list hl (wpAny_bind (wpAny_runValue ?_))
    refine txt_loop (zs := zs) ((Walks.list (A := A.in1) hh s.heap.objs.size l (Nat.ne_of_lt ll) items).toS) S (fun z => ?_) hn (by omega) val (items.size - 0) 0 0 _ rfl (Nat.zero_le _) ⟨⟨_, Heap.get?_push_size _ rfl, rfl, rfl⟩, hl.push _⟩ cnt_nil
      (setOf_at S0 fun o e => Heap.get?_push_of_some _ e) fun s' c' m hc hS' => wpAny_pure (done _ s' c' _ (fun _ _ z => z) m hc hS')
    rcases List.mem_cons.mp z with z | z
    · exact Nat.ne_of_lt lS z
    · exact ne (List.mem_singleton.mp z).symm
  · have hl : s.heap.IsTuple l items := ⟨_, hol, rfl, nn, rfl⟩
    unfold Builtin.Frozenset.updateFrom
    generalize hPI : pyIter = PI
    wp_walk
    subst hPI
    refine wpAny_pyIter_tuple hl (wpAny_bind (wpAny_runValue ?_))
    refine txt_loop (zs := zs) ((Walks.tuple (A := A.in1) hh s.heap.objs.size l (Nat.ne_of_lt ll) items).toS) S (fun z => ?_) hn (by omega) val (items.size - 0) 0 0 _ rfl (Nat.zero_le _) ⟨⟨_, Heap.get?_push_size _ rfl, rfl, rfl⟩, hl.push _⟩ cnt_nil
      (setOf_at S0 fun o e => Heap.get?_push_of_some _ e) fun s' c' m hc hS' => wpAny_pure (done _ s' c' _ (fun _ _ z => z) m hc hS')
    rcases List.mem_cons.mp z with z | z
    · exact Nat.ne_of_lt lS z
    · exact ne (List.mem_singleton.mp z).symm
set_option maxHeartbeats 3200000 in
theorem call_set_txt {ocl : String} {od : Option Addr} {nn : Nat} {osl : Array (Option Value)} (tyS : ocl = "list" ∨ ocl = "tuple") (hh : A.handled = none) (hol : s.heap.get? l = some { cls := .type ocl, dict := od, data := .seq items nn, slots := osl })
    (val : ∀ (i : Nat) (v : Value), items[i]? = some v → ∃ z t, zs[i]? = some z ∧ v = Value.str z t) (hn : zs.length = items.size) (room : zs.length ≤ 1000) {Q : Value → Shared → Prop}
    (h : ∀ h' tk c, Cnt zs c → h'.SetOf (mixKind P w) s.heap.objs.size (TxtIn zs) c → (∀ b o, s.heap.get? b = some o → h'.get? b = some o) → Q (.ref s.heap.objs.size) { s with heap := h', toks := tk }) :
    wpAny (model P w) A (call (.type "set") [.ref l]) Q E s := by
  let S := s.heap.objs.size
  let hp0 := s.heap.push (setO0 w)
  have hnew : hp0.get? S = some (setO0 w) := Heap.get?_push_size _ rfl
  have hold : ∀ b o, s.heap.get? b = some o → hp0.get? b = some o := fun b o e => Heap.get?_push_of_some _ e
  have ne : l ≠ S := Nat.ne_of_lt (Heap.lt_size hol)
  have ty0 : Shared.TypeIs { s with heap := hp0 } (.ref S) "set" := ⟨_, hnew, rfl⟩
  obtain ⟨c, tl, hmro⟩ := F.called_set.mro
  have m1 := F.called_set.made
  have m2 := F.called_set.sub
  have m3 := F.called_set.notType
  have m4 := F.called_set.canCreate
  have m5 := F.typeCall_set_1 (.ref l)
  have m6 := F.called_set.init.lookup
  have m7 := F.called_set.init.bind (.ref S)
  refine wpAny_call (codeAny_of_tree ?_)
  show wpAny _ _ (callAny (.type "set") _) _ _ _
  refine wpAny_pure ⟨Code.quiet_builtin _ (by decide +kernel), codeAny_builtin F.entry_type_call ?_⟩
  rw [Around.under_plain (weight_type_call_type "set" [.ref l] []) rfl]
  repeat (any_goals (first | assumption | wp_step))
  refine codeAny_mono (code_set_led1 (.ref l) (E := E) (Q₁ := fun r s1 => r = .ref S ∧ s1 = { s with heap := hp0 }) ⟨rfl, rfl⟩) fun r s1 hr => ?_
  match r, hr with
  | .error e, hr => exact hr
  | .ok .next, hr => exact hr.elim
  | .ok .brk, hr => exact hr.elim
  | .ok .cont, hr => exact hr.elim
  | .ok (.ret u), hr =>
    obtain ⟨rfl, rfl⟩ := hr
    repeat (any_goals (first | assumption | wp_step))
    refine codeAny_mono (codeAny_call_builtin (R := wants (fun r s2 => r = .none ∧ ∃ h' tk c, s2 = { s with heap := h', toks := tk } ∧ Cnt zs c ∧ h'.SetOf (mixKind P w) S (TxtIn zs) c ∧ ∀ b o, b ≠ S → hp0.get? b = some o → h'.get? b = some o) E)
      F.called_set.init.plain F.entry_set_init (check_set_init_1 ty0 ?_)) fun r2 s2 hr2 => ?_
    · unfold Builtin.«set.__init__» noKeywords
      generalize hU : Builtin.Frozenset.updateFrom = U
      wp_walk
      subst hU
      refine txt_init (s := { s with heap := hp0 }) (zs := zs) tyS (by simpa using hh) (hold _ _ hol) hnew ne val hn room fun h' tk c hc hS k => ?_
      exact wpAny_pure ⟨rfl, h', tk, c, rfl, hc, hS, k⟩
    · match r2, hr2 with
      | .error e, hr2 => exact hr2
      | .ok .next, hr2 => exact hr2.elim
      | .ok .brk, hr2 => exact hr2.elim
      | .ok .cont, hr2 => exact hr2.elim
      | .ok (.ret u), hr2 =>
        obtain ⟨rfl, h', tk, c, rfl, hc, hS, k⟩ := hr2
        repeat (any_goals (first | assumption | wp_step))
        exact h _ _ _ hc hS fun b o e => k b o (Nat.ne_of_lt (Heap.lt_size e)) (hold b o e)
end
section
variable {X : Cx}
/-- set(xs) -/
def rSetS (P : Program) (w : World) (K : PySem.W.Frag) : List V → Hp → VK → Prop := fun xs H Q => ∃ (a : Addr) (zs : List Str), xs = [.ref a] ∧ (SqL K H a (zs.map V.str) ∨ SqT K H a (zs.map V.str)) ∧ zs.length ≤ 1000 ∧
  ∀ p c, H p = none → Cnt zs c → Q (.ref p) (upd H p (SetK P w p (TxtIn zs) c))
theorem call_setS (hc : X.calm = true) : CallR X (.type "set") (rSetS X.prog X.w X.K) := by
  intro pins s σ H xs us Q I r h
  obtain ⟨a, zs, rfl, hs, hz, q⟩ := h
  obtain ⟨u, rfl, ru⟩ := r.one
  obtain rfl : u = Value.ref a := ru
  have fin : ∀ h' tk c, Cnt zs c → h'.SetOf (mixKind X.prog X.w) s.heap.objs.size (TxtIn zs) c → (∀ b o, s.heap.get? b = some o → h'.get? b = some o) → EP X pins σ Q (.ref s.heap.objs.size) { s with heap := h', toks := tk } := fun h' tk c hc hS keep =>
    ⟨.ref _, _, I.laid (t' := tk) keep (Nat.le_refl _) (setK_new hS), rfl, q _ c (I.hok.fresh (Nat.le_refl _)) hc⟩
  rcases hs with hs | hs
  · obtain ⟨its, rv, ⟨⟨oc, od, odt, osl⟩, n2, ho, hcl, hd, hdt⟩, _⟩ := I.list hs
    simp only at hcl hd hdt
    subst hcl hdt
    exact call_set_txt (.inl rfl) (I.ok.hd hc) ho (fun i v hv => txt_vals rv i v hv) (by rw [List.size_toArray, ← rv.length, List.length_map]) hz fin
  · obtain ⟨its, rv, ⟨⟨oc, od, odt, osl⟩, ho, hcl, n2, hdt⟩, _⟩ := I.tuple hs
    simp only at hcl hdt
    subst hcl hdt
    exact call_set_txt (.inr rfl) (I.ok.hd hc) ho (fun i v hv => txt_vals rv i v hv) (by rw [List.size_toArray, ← rv.length, List.length_map]) hz fin
/-- len(s), s such a set -/
def rLenK (P : Program) (w : World) : List V → Hp → VK → Prop := fun xs H Q => ∃ (a : Addr) (S : Key → Bool) (n : Nat), xs = [.ref a] ∧ H a = some (SetK P w a S n) ∧ Q (.int n) H
theorem call_lenK : CallR X (.builtin "len") (rLenK X.prog X.w) := by
  intro pins s σ H xs us Q I r h
  obtain ⟨a, S, n, rfl, ha, q⟩ := h
  obtain ⟨u, rfl, ru⟩ := r.one
  obtain rfl : u = Value.ref a := ru
  obtain ⟨o, es, ep, t, ho, hex, hd, _, _, hb, hf, rfl⟩ := setK_get I ha
  exact call_len_set ho hex hd hf (by have : scanBound = 4096 := rfl; omega) ⟨.int _, H, I.tok _, ⟨_, rfl⟩, q⟩
end
end Own

set_option Elab.async false
set_option maxRecDepth 100000
set_option linter.unusedVariables false
/-! steps of dicts; the deck that is a dict -/
namespace Own
open PySem PySem.Spec PyProof.Rows L2
section
variable {σ : L2.St} {H : Hp} {Q : VK} {D : Ends} {td ty tv : TE}
theorem k_dget (h : td σ H fun x H1 => ty σ H1 fun y H2 => ∃ a v, x = .ref a ∧ DGet H2 a y (some v) ∧ Q v H2) : tDGet td ty σ H Q := h
theorem k_dput (h : tv σ H fun v H1 => td σ H1 fun x H2 => ty σ H2 fun y H3 => ∃ a H4, x = .ref a ∧ DPut H3 a y v H4 ∧ D.nx σ H4) : sDPut td ty tv D σ H := h
theorem k_dg {a : Addr} {kvs : List (Key × V)} {k : Key} {v : V} {R : V → Prop} (e : H a = some (.dK kvs)) (g : valV kvs k = some v) (h : R v) : ∃ a' v', V.ref a = .ref a' ∧ DGet H a' (kV k) (some v') ∧ R v' := by
  refine ⟨a, v, rfl, ?_, h⟩
  rw [← g]
  exact DGet.k e
theorem k_dgS {a : Addr} {kvs : List (Key × V)} {z : Str} {v : V} {R : V → Prop} (e : H a = some (.dK kvs)) (g : valV kvs (Sum.inr z) = some v) (h : R v) : ∃ a' v', V.ref a = .ref a' ∧ DGet H a' (V.str z) (some v') ∧ R v' := k_dg (k := Sum.inr z) e g h
theorem k_dpS {a : Addr} {kvs : List (Key × V)} {z : Str} {v : V} {R : Hp → Prop} (e : H a = some (.dK kvs)) (l : kvs.length < 100000) (h : R (upd H a (.dK (putK kvs (Sum.inr z) v)))) : ∃ a' H4, V.ref a = .ref a' ∧ DPut H a' (V.str z) v H4 ∧ R H4 :=
  ⟨a, _, rfl, DPut.k (k := Sum.inr z) e (k_szL l), h⟩
theorem k_dp {a : Addr} {kvs : List (Key × V)} {k : Key} {v : V} {R : Hp → Prop} (e : H a = some (.dK kvs)) (l : kvs.length < 100000) (h : R (upd H a (.dK (putK kvs k v)))) : ∃ a' H4, V.ref a = .ref a' ∧ DPut H a' (kV k) v H4 ∧ R H4 :=
  ⟨a, _, rfl, DPut.k e (k_szL l), h⟩
theorem k_isNv {ta : TE} (h : ta σ H fun x H1 => Q (.bl (decide (x = .non))) H1) : tIsN ta σ H Q := h
theorem k_notNv {ta : TE} (h : ta σ H fun x H1 => Q (.bl (!decide (x = .non))) H1) : tNotN ta σ H Q := h
theorem k_disp3 {k1 v1 k2 v2 k3 v3 : TE} (h : ∀ p, H p = none → k1 σ (upd H p (.dK [])) fun x1 H1 => v1 σ H1 fun y1 H2 => k2 σ H2 fun x2 H3 => v2 σ H3 fun y2 H4 => k3 σ H4 fun x3 H5 => v3 σ H5 fun y3 H6 =>
    H6 p = some (.dK []) ∧ ∃ kvs : List (Key × V), [(x1, y1), (x2, y2), (x3, y3)] = kvs.map (fun kv => (kV kv.1, kv.2)) ∧ kvs.length ≤ 15 ∧ Q (.ref p) (upd H6 p (.dK (mergeK [] kvs)))) : tDisp [(k1, v1), (k2, v2), (k3, v3)] σ H Q := h
theorem k_str {te : TE} {R : It → Hp → Prop} (h : te σ H fun x H1 => ∃ z, x = .str z ∧ R (Its z) H1) : iStr te σ H R := h
theorem k_enumT {K : PySem.W.Frag} {ta : TA} {R : It → Hp → Prop} (h : ta σ H fun vs H1 => ∃ a xs, vs = [.ref a] ∧ SqT K H1 a xs ∧ R (IteT K a) H1) : iEnumT K ta σ H R := h
end
/-! ### keys that are texts -/
theorem sne {a b : Str} (h : ¬ a = b) : ¬ (Sum.inr a : Key) = Sum.inr b := fun z => h (Sum.inr.inj z)
theorem kv_hit {k : Key} {v : V} {r : List (Key × V)} : valV ((k, v) :: r) k = some v := by
  unfold valV
  rw [List.find?_cons_of_pos (by simp)]
  rfl
theorem kv_miss {k j : Key} {v : V} {r : List (Key × V)} (h : ¬ j = k) : valV ((j, v) :: r) k = valV r k := by
  unfold valV
  rw [List.find?_cons_of_neg (by simpa using h)]
theorem kv_nil {k : Key} : valV ([] : List (Key × V)) k = none := rfl
/-! ### the deck -/
def dkv (c : Addr) (m n : Int) : List (Key × V) := [(Sum.inr "cells", .ref c), (Sum.inr "mixed", .int m), (Sum.inr "turn", .int n)]
theorem cm : ¬ ("cells" : Str) = "mixed" := by decide +kernel
theorem ct : ¬ ("cells" : Str) = "turn" := by decide +kernel
theorem mt : ¬ ("mixed" : Str) = "turn" := by decide +kernel
theorem dkv_cells {c : Addr} {m n : Int} : valV (dkv c m n) (Sum.inr "cells") = some (.ref c) := kv_hit
theorem dkv_mixed {c : Addr} {m n : Int} : valV (dkv c m n) (Sum.inr "mixed") = some (.int m) := (kv_miss (sne cm)).trans kv_hit
theorem dkv_turn {c : Addr} {m n : Int} : valV (dkv c m n) (Sum.inr "turn") = some (.int n) := (kv_miss (sne ct)).trans ((kv_miss (sne mt)).trans kv_hit)
theorem dkv_put {c : Addr} {m n y : Int} : putK (dkv c m n) (Sum.inr "turn") (.int y) = dkv c m y := by
  have e : ((dkv c m n).any fun kv => decide (kv.1 = (Sum.inr "turn" : Key))) = true := by
    simp [dkv]
  unfold putK
  rw [if_pos e]
  unfold dkv
  rw [List.map_cons, List.map_cons, List.map_cons, List.map_nil]
  rw [if_neg (by simpa using sne ct), if_neg (by simpa using sne mt), if_pos rfl]
theorem dkv_merge (c : Addr) (m n : Int) : mergeK [] (dkv c m n) = dkv c m n := by
  have p : ∀ (kvs : List (Key × V)) (k : Key) (v : V), valV kvs k = none → putK kvs k v = kvs ++ [(k, v)] := fun kvs k v h => putK_new _ h
  unfold mergeK dkv
  simp only [List.foldl_cons, List.foldl_nil]
  rw [p [] _ _ kv_nil, p, p]
  · rfl
  · exact (show valV [((Sum.inr "cells" : Key), V.ref c), (Sum.inr "mixed", V.int m)] (Sum.inr "turn") = none from (kv_miss (sne ct)).trans ((kv_miss (sne mt)).trans kv_nil))
  · exact (show valV [((Sum.inr "cells" : Key), V.ref c)] (Sum.inr "mixed") = none from (kv_miss (sne cm)).trans kv_nil)
def Dk (d c : Addr) (a : Addr) : Prop := a = d ∨ a = c
/-- b: at most so often it was drawn -/
def Deck (d c : Addr) (b : Int) (H : Hp) : Prop := ∃ (xs : List Int) (m n : Int), d ≠ c ∧ H d = some (.dK (dkv c m n)) ∧ H c = some (.lst (xs.map V.int)) ∧ 0 ≤ m ∧ m < 4294967296 ∧ 0 ≤ n ∧ n ≤ b ∧ xs.length ≤ 63
section
variable {d c p : Addr} {b b' : Int} {H H' : Hp} {M : Addr → Prop} {o : HO}
theorem Deck.mono (D : Deck d c b H) (h : b ≤ b') : Deck d c b' H := by
  obtain ⟨xs, m, n, ne, h1, h2, m0, m1, n0, n1, l⟩ := D
  exact ⟨xs, m, n, ne, h1, h2, m0, m1, n0, Int.le_trans n1 h, l⟩
theorem Deck.same (D : Deck d c b H) (s : Same H H') : Deck d c b H' := by
  obtain ⟨xs, m, n, ne, h1, h2, r⟩ := D
  exact ⟨xs, m, n, ne, s _ _ h1, s _ _ h2, r⟩
theorem Deck.new (D : Deck d c b H) (n : H p = none) : Deck d c b (upd H p o) := D.same (Same.upd n)
theorem Deck.off (D : Deck d c b H) (n : H p = none) : ¬ Dk d c p := by
  obtain ⟨xs, m, k, _, h1, h2, _⟩ := D
  rintro (rfl | rfl)
  · rw [h1] at n; cases n
  · rw [h2] at n; cases n
theorem Deck.kinds (D : Deck d c b H) (h : H p = some o) (n : ∀ xs, o ≠ .lst xs) (n2 : ∀ kvs, o ≠ .dK kvs) : ¬ Dk d c p := by
  obtain ⟨xs, m, k, _, h1, h2, _⟩ := D
  rintro (rfl | rfl)
  · rw [h1] at h
    cases h
    exact n2 _ rfl
  · rw [h2] at h
    cases h
    exact n _ rfl
theorem Deck.keep (D : Deck d c b H) (x : Ext M H H') (n1 : ¬ M d) (n2 : ¬ M c) : Deck d c b H' := by
  obtain ⟨xs, m, k, ne, h1, h2, r⟩ := D
  exact ⟨xs, m, k, ne, x.2 _ _ n1 h1, x.2 _ _ n2 h2, r⟩
theorem Deck.offL (D : Deck d c b H') (n : ¬ Dk d c p) : Deck d c b (upd H' p o) := by
  obtain ⟨xs, m, k, ne, h1, h2, r⟩ := D
  exact ⟨xs, m, k, ne, (upd_ne fun z => n (.inl z.symm)).trans h1, (upd_ne fun z => n (.inr z.symm)).trans h2, r⟩
theorem same_free (s : Same H H') (h : H' p = none) : H p = none := L2.Same.free s h
theorem same_off (s : Same H H') (n : H p = none) : Same H (upd H' p o) := fun a u e => by
  rw [upd_ne (ne_of_none e n)]
  exact s a u e
theorem ext_off (x : Ext M H H') (n : H p = none) : Ext M H (upd H' p o) := by
  refine ⟨fun a xs e => ?_, fun a u na e => ?_⟩
  · rw [upd_ne (ne_of_none e n)]
    exact x.1 a xs e
  · rw [upd_ne (ne_of_none e n)]
    exact x.2 a u na e
end
def Tups (H H' : Hp) : Prop := ∀ a xs, H a = some (.tup xs) → H' a = some (.tup xs)
theorem Tups.trans {H H1 H2 : Hp} (a : Tups H H1) (b : Tups H1 H2) : Tups H H2 := fun x xs h => b x xs (a x xs h)
theorem Tups.refl (H : Hp) : Tups H H := fun _ _ h => h
theorem Tups.same {H H' : Hp} (s : Same H H') : Tups H H' := fun a xs h => s a _ h
theorem tups_upd {H : Hp} {p : Addr} {o u : HO} (h : H p = some u) (n : ∀ xs, u ≠ .tup xs) : Tups H (upd H p o) := fun a xs e => by
  have na : a ≠ p := fun z => by
    rw [z, h] at e
    exact n xs (Option.some.inj e)
  rw [upd_ne na]
  exact e
theorem tups_new {H : Hp} {p : Addr} {o : HO} (h : H p = none) : Tups H (upd H p o) := fun a xs e => lk_new e h
theorem Ext.tups {M : Addr → Prop} {H H' : Hp} (x : Ext M H H') : Tups H H' := x.1
theorem passOwnA {X : Cx} {σ : L2.St} {E : XK} : PassesAt CX0 X σ E := fun _ _ _ _ _ _ h => h.elim
section
variable {σ : L2.St} {H : Hp} {Q : VK} {ta tb tc : TE} {r r' : R2}
theorem k_chain (h : ta σ H fun x H1 => tb σ H1 fun y H2 => r x y H2 fun z H3 => ∃ k, z = .bl k ∧ (if k = true then tc σ H3 fun w' H4 => r' y w' H4 Q else Q (.bl false) H3)) : tChain r r' ta tb tc σ H Q := h
end
/-! ### comprehensions that only lay new things -/
section
variable {J : It} {n : Nat} {G : Hp → Prop} {Y : Nat → Hp → V → Hp → Prop} {g : TG} {tt : TT} {te : TE} {vs : List Nat} {σ : L2.St} {H1 : Hp} {D : Addr} {Qd : Hp → Prop}
theorem lc_same (w : Walk J n G Y) (F : Nat → V) (p : Nat → Bool) (hn : n < 100000) (hD : H1 D = none) (hG : ∀ H, Same H1 H → G H)
    (hs : ∀ k x H H', k < n → Same H1 H → Y k H x H' → ∀ (Q : VK) (R : Hp → Prop), (p k = true → ∀ H4, Same H H4 → Q (F k) H4) → (p k = false → ∀ H4, Same H H4 → R H4) →
      g x (wipe σ vs) H' fun σ2 H2 => wipe σ2 vs = wipe σ vs ∧ tt σ2 H2 fun b H3 => if b = true then te σ2 H3 Q else R H3)
    (hd : ∀ H, Same H1 H → H D = some (.lst (((List.range n).filter p).map F)) → Qd H) :
    ∃ W : Nat → Nat → Hp → Prop, (∃ m, W 0 m (upd H1 D (.lst []))) ∧ ∀ i m H, W i m H →
      (J.stop i H ∧ Qd H) ∨ (J.go i H ∧ ∃ Nx : Hp → Prop, (∀ H', Nx H' → ∃ m', m' < m ∧ W (i + 1) m' H') ∧ ∀ x H', J.yld i H x H' → g x (wipe σ vs) H' fun σ2 H2 => wipe σ2 vs = wipe σ vs ∧ tt σ2 H2 fun b H3 =>
        if b = true then te σ2 H3 fun y H4 => ∃ acc, H4 D = some (.lst acc) ∧ acc.length < sizeLine ∧ Nx (upd H4 D (.lst (acc ++ [y]))) else Nx H3) := by
  refine lc_it w (fun k H => Same H1 H ∧ H D = some (.lst (((List.range k).filter p).map F))) ⟨Same.upd hD, upd_same⟩ (fun k H _ h => hG H h.1) (fun k x H H' hk h y => ?_) fun H h => hd H h.1 h.2
  obtain ⟨s1, hd1⟩ := h
  refine hs k x H H' hk s1 y _ _ (fun hp H4 s4 => ?_) fun hp H4 s4 => ?_
  · refine ⟨_, s4 _ _ hd1, k_szL ?_, same_off (s1.trans s4) hD, ?_⟩
    · rw [List.length_map]
      have := List.length_filter_le p (List.range k)
      rw [List.length_range] at this
      omega
    · rw [upd_same, List.range_succ, List.filter_append, List.filter_cons_of_pos hp, List.filter_nil, List.map_append]
      rfl
  · refine ⟨s1.trans s4, ?_⟩
    rw [List.range_succ, List.filter_append, List.filter_cons_of_neg (by rw [hp]; exact Bool.false_ne_true), List.filter_nil, List.append_nil]
    exact s4 _ _ hd1
end
theorem range_all (n : Nat) : (List.range n).filter (fun _ => true) = List.range n := List.filter_eq_self.mpr fun _ _ => rfl
theorem range_get {α β : Type} (xs : List α) (f : Nat → β) (h : α → β) (e : ∀ k x, xs[k]? = some x → f k = h x) : (List.range xs.length).map f = xs.map h := by
  refine List.ext_getElem? fun k => ?_
  rw [List.getElem?_map, List.getElem?_map]
  by_cases hk : k < xs.length
  · rw [List.getElem?_range hk, List.getElem?_eq_getElem hk]
    exact congrArg some (e k _ (List.getElem?_eq_getElem hk))
  · rw [List.getElem?_eq_none (by rw [List.length_range]; omega), List.getElem?_eq_none (by omega)]
    rfl
section
variable {K : PySem.W.Frag} {a b : Addr} {xs ys : List V}
theorem walk_zipT {n : Nat} (hn : n = min xs.length ys.length) : Walk (RZ.ItzT K a b) n (fun H => SqT K H a xs ∧ SqT K H b ys) (YPair (fun i => xs[i]?) (fun i => ys[i]?)) :=
  ⟨fun i H h q => ⟨xs, ys, _, _, q.1, q.2, List.getElem?_eq_getElem (by omega), List.getElem?_eq_getElem (by omega)⟩, fun H q => ⟨xs, ys, q.1, q.2, by omega⟩,
    fun i H x H' h q ⟨T, y, z, e1, e2, e3, e4, e5⟩ => ⟨T, y, z, e1, e2, e3, e4 xs q.1, e5 ys q.2⟩⟩
end
/-! ### slices -/
theorem cut_from {xs : List V} {k : Nat} : cutV xs (some (k : Int)) none = xs.drop k := by
  unfold cutV
  rw [HT.sIx_nat, HT.sIx_none]
  by_cases h : k ≤ xs.length
  · rw [Nat.min_eq_left h, List.take_of_length_le (by rw [List.length_drop]; exact Nat.le_refl _)]
  · rw [Nat.min_eq_right (by omega), Nat.sub_self, List.take_zero, List.drop_eq_nil_of_le (by omega)]
theorem cut_to {xs : List V} {k : Nat} : cutV xs none (some (k : Int)) = xs.take k := by
  unfold cutV
  rw [HT.sIx_nat, HT.sIx_none, List.drop_zero, Nat.sub_zero]
  by_cases h : k ≤ xs.length
  · rw [Nat.min_eq_left h]
  · rw [Nat.min_eq_right (by omega), List.take_length, List.take_of_length_le (by omega)]
theorem sla_of {K : PySem.W.Frag} {H : Hp} {Q : VK} {a : Addr} {xs ys : List V} {lo hi : Option Int} (ha : H a = some (.tup xs)) (e : cutV xs lo hi = ys) (h : ∀ b H', Same H H' → H' b = some (.tup ys) → Q (.ref b) H') : rSlA K (.ref a) lo hi H Q := by
  refine ⟨a, xs, rfl, SqT.of ha, fun z => h a H (Same.refl H) ?_, fun _ p hp => h p _ (Same.upd hp) (by rw [e]; exact upd_same)⟩
  have e2 : cutV xs lo hi = xs := by
    unfold cutV
    rw [z.1, z.2, List.drop_zero, Nat.sub_zero, List.take_length]
  rw [← e, e2]
  exact ha
theorem k_zipA {K : PySem.W.Frag} {ta : TA} {σ : L2.St} {H : Hp} {R : It → Hp → Prop} (h : ta σ H fun vs H1 => ∃ a b xs ys, vs = [.ref a, .ref b] ∧ ((SqL K H1 a xs ∧ SqL K H1 b ys ∧ R (Itz K a b) H1) ∨ (SqT K H1 a xs ∧ SqT K H1 b ys ∧ R (RZ.ItzT K a b) H1))) : RZ.iZipA K ta σ H R := h
end Own

set_option Elab.async false
set_option maxRecDepth 100000
set_option linter.unusedVariables false
/-! another deck that is a dict -/
namespace Own
open PySem PySem.Spec PyProof.Rows L2
def dkw (c : Addr) (m n : Int) : List (Key × V) := [(Sum.inr "cells", .ref c), (Sum.inr "mixed", .int m), (Sum.inr "draws", .int n)]
theorem cmE : ¬ ("cells" : Str) = "mixed" := by decide +kernel
theorem cdE : ¬ ("cells" : Str) = "draws" := by decide +kernel
theorem mdE : ¬ ("mixed" : Str) = "draws" := by decide +kernel
theorem dkw_cells {c : Addr} {m n : Int} : valV (dkw c m n) (Sum.inr "cells") = some (.ref c) := kv_hit
theorem dkw_mixed {c : Addr} {m n : Int} : valV (dkw c m n) (Sum.inr "mixed") = some (.int m) := (kv_miss (sne cmE)).trans kv_hit
theorem dkw_draws {c : Addr} {m n : Int} : valV (dkw c m n) (Sum.inr "draws") = some (.int n) := (kv_miss (sne cdE)).trans ((kv_miss (sne mdE)).trans kv_hit)
theorem dkw_put {c : Addr} {m n y : Int} : putK (dkw c m n) (Sum.inr "draws") (.int y) = dkw c m y := by
  have e : ((dkw c m n).any fun kv => decide (kv.1 = (Sum.inr "draws" : Key))) = true := by
    simp [dkw]
  unfold putK
  rw [if_pos e]
  unfold dkw
  rw [List.map_cons, List.map_cons, List.map_cons, List.map_nil]
  rw [if_neg (by simpa using sne cdE), if_neg (by simpa using sne mdE), if_pos rfl]
theorem dkw_merge (c : Addr) (m n : Int) : mergeK [] (dkw c m n) = dkw c m n := by
  have p : ∀ (kvs : List (Key × V)) (k : Key) (v : V), valV kvs k = none → putK kvs k v = kvs ++ [(k, v)] := fun kvs k v h => putK_new _ h
  unfold mergeK dkw
  simp only [List.foldl_cons, List.foldl_nil]
  rw [p [] _ _ kv_nil, p, p]
  · rfl
  · exact (show valV [((Sum.inr "cells" : Key), V.ref c), (Sum.inr "mixed", V.int m)] (Sum.inr "draws") = none from (kv_miss (sne cdE)).trans ((kv_miss (sne mdE)).trans kv_nil))
  · exact (show valV [((Sum.inr "cells" : Key), V.ref c)] (Sum.inr "mixed") = none from (kv_miss (sne cmE)).trans kv_nil)
/-- b: at most so often it was drawn -/
def DeckE (d c : Addr) (b : Int) (H : Hp) : Prop := ∃ (xs : List Int) (m n : Int), d ≠ c ∧ H d = some (.dK (dkw c m n)) ∧ H c = some (.lst (xs.map V.int)) ∧ 0 ≤ m ∧ m < 4294967296 ∧ 0 ≤ n ∧ n ≤ b ∧ xs.length ≤ 63
section
variable {d c p : Addr} {b b' : Int} {H H' : Hp} {M : Addr → Prop} {o : HO}
theorem DeckE.mono (D : DeckE d c b H) (h : b ≤ b') : DeckE d c b' H := by
  obtain ⟨xs, m, n, ne, h1, h2, m0, m1, n0, n1, l⟩ := D
  exact ⟨xs, m, n, ne, h1, h2, m0, m1, n0, Int.le_trans n1 h, l⟩
theorem DeckE.same (D : DeckE d c b H) (s : Same H H') : DeckE d c b H' := by
  obtain ⟨xs, m, n, ne, h1, h2, r⟩ := D
  exact ⟨xs, m, n, ne, s _ _ h1, s _ _ h2, r⟩
theorem DeckE.new (D : DeckE d c b H) (n : H p = none) : DeckE d c b (upd H p o) := D.same (Same.upd n)
theorem DeckE.off (D : DeckE d c b H) (n : H p = none) : ¬ Dk d c p := by
  obtain ⟨xs, m, k, _, h1, h2, _⟩ := D
  rintro (rfl | rfl)
  · rw [h1] at n; cases n
  · rw [h2] at n; cases n
theorem DeckE.kinds (D : DeckE d c b H) (h : H p = some o) (n : ∀ xs, o ≠ .lst xs) (n2 : ∀ kvs, o ≠ .dK kvs) : ¬ Dk d c p := by
  obtain ⟨xs, m, k, _, h1, h2, _⟩ := D
  rintro (rfl | rfl)
  · rw [h1] at h
    cases h
    exact n2 _ rfl
  · rw [h2] at h
    cases h
    exact n _ rfl
theorem DeckE.keep (D : DeckE d c b H) (x : Ext M H H') (n1 : ¬ M d) (n2 : ¬ M c) : DeckE d c b H' := by
  obtain ⟨xs, m, k, ne, h1, h2, r⟩ := D
  exact ⟨xs, m, k, ne, x.2 _ _ n1 h1, x.2 _ _ n2 h2, r⟩
theorem DeckE.offL (D : DeckE d c b H') (n : ¬ Dk d c p) : DeckE d c b (upd H' p o) := by
  obtain ⟨xs, m, k, ne, h1, h2, r⟩ := D
  exact ⟨xs, m, k, ne, (upd_ne fun z => n (.inl z.symm)).trans h1, (upd_ne fun z => n (.inr z.symm)).trans h2, r⟩
end
end Own

set_option Elab.async false
set_option maxRecDepth 100000
set_option linter.unusedVariables false
/-! more steps -/
namespace Own
open PySem PySem.Spec PyProof.Rows L2
section
variable {A B : Prop}
theorem k_ifTt (h : A) : if true = true then A else B := by rwa [if_pos rfl]
theorem k_ifNf (h : A) : if (!false) = true then A else B := by
  rw [if_pos (by decide)]
  exact h
theorem k_ifFf (h : B) : if false = true then A else B := by rwa [if_neg (by decide)]
theorem k_ifNt (h : B) : if (!true) = true then A else B := by rwa [if_neg (by decide)]
end
theorem k_sure {c : Prop} [Decidable c] {A B : Prop} (h : c) (h1 : A) : if decide c = true then A else B := by
  rw [if_pos (decide_eq_true h)]
  exact h1
theorem k_sureN {c : Prop} [Decidable c] {A B : Prop} (h : c) (h1 : B) : if (!decide c) = true then A else B := by
  rw [if_neg (by rw [decide_eq_true h]; decide)]
  exact h1
theorem k_not1 {c : Prop} [Decidable c] {A B : Prop} (h : ¬ c) (h1 : B) : if decide c = true then A else B := by
  rw [if_neg (by rw [decide_eq_false h]; decide)]
  exact h1
theorem k_notN1 {c : Prop} [Decidable c] {A B : Prop} (h : ¬ c) (h1 : A) : if (!decide c) = true then A else B := by
  rw [if_pos (by rw [decide_eq_false h]; decide)]
  exact h1
theorem op_inK {X : Cx} {K : PySem.W.Frag} (h : X.K = K) : OpR X (compareOp .In) (rIn K false) := by
  subst h
  exact op_in_seq
theorem op_notInK {X : Cx} {K : PySem.W.Frag} (h : X.K = K) : OpR X (compareOp .NotIn) (rIn K true) := by
  subst h
  exact op_notIn_seq
section
variable {K : PySem.W.Frag} {σ : L2.St} {H : Hp} {Q : VK}
theorem isi_t {x : V} {A B : String} {b : Bool} (t : TyX K H x (.type A)) (e : kitB A B = some b) (h : Q (.bl b) H) : rIsi K [x, .ty B] H Q := ⟨_, _, _, _, b, rfl, .ty _, t, kit_ty e, h⟩
end
theorem all_map {α : Type} (xs : List α) (f : α → Bool) (h : ∀ x ∈ xs, f x = true) : (xs.map f).all id = true := List.all_eq_true.mpr fun b hb => by
  obtain ⟨x, hx, rfl⟩ := List.mem_map.mp hb
  exact h x hx
theorem inV_str {z : Str} {zs : List Str} (h : z ∈ zs) : inV (.str z) (zs.map V.str) = true := by
  unfold inV
  rw [List.any_eq_true]
  exact ⟨.str z, List.mem_map.mpr ⟨z, h, rfl⟩, by simp [eqV]⟩
theorem inV_strs {z : Str} {zs : List Str} : inV (.str z) (zs.map V.str) = decide (z ∈ zs) := by
  by_cases h : z ∈ zs
  · rw [inV_str h, decide_eq_true h]
  · rw [decide_eq_false h]
    unfold inV
    rw [List.any_eq_false]
    rintro v hv
    obtain ⟨y, hy, rfl⟩ := List.mem_map.mp hv
    have n : y ≠ z := fun e => h (e ▸ hy)
    simp [eqV, n]
theorem nodup_len {α : Type} [BEq α] [LawfulBEq α] : ∀ {zs cs : List α}, zs.Nodup → (∀ z ∈ zs, z ∈ cs) → zs.length ≤ cs.length
  | [], _, _, _ => Nat.zero_le _
  | z :: r, cs, nd, h => by
    have nd2 := List.nodup_cons.mp nd
    have hz := h z List.mem_cons_self
    have := nodup_len (cs := cs.erase z) nd2.2 fun y hy => (List.mem_erase_of_ne (fun e : y = z => nd2.1 (by rw [← e]; exact hy))).mpr (h y (List.mem_cons_of_mem _ hy))
    rw [List.length_erase_of_mem hz] at this
    have := List.length_pos_of_mem hz
    rw [List.length_cons]
    omega
/-- a statement that is not reached -/
theorem ps_nope {X : Cx} {st : Stmt} : PS X st (fun _ _ _ => False) := ⟨fun _ _ _ _ _ _ h => h.elim⟩
theorem pe_nope {X : Cx} {e : Expr} : PE X e (fun _ _ _ => False) := ⟨fun _ _ _ _ _ _ h => h.elim⟩
theorem k_din {td ty : TE} {σ : L2.St} {H : Hp} {Q : VK} (h : ty σ H fun y H1 => td σ H1 fun x H2 => ∃ a o, x = V.ref a ∧ DGet H2 a y o ∧ Q (V.bl o.isSome) H2) : tDIn ty td σ H Q := h
theorem k_fld {K : PySem.W.Frag} {ta tv : TE} {f : Str} {D : Ends} {σ : L2.St} {H : Hp} (h : tv σ H fun y H1 => ta σ H1 fun x H2 => ∃ a C dx fs, x = V.ref a ∧ H2 a = some (HO.ins C dx fs) ∧ Cls K C ∧ NoAttr K C f ∧ fs.length < 1000 ∧ D.nx σ (upd H2 a (HO.ins C dx (putF f y fs)))) : sFld K ta tv f D σ H := h
theorem k_dnewK {σ : L2.St} {H : Hp} {Q : VK} (h : ∀ p, H p = none → Q (V.ref p) (upd H p (HO.dK []))) : tDNewK σ H Q := h
/-! ### in order -/
theorem perm_map {α β : Type} {f : α → β} {ys l : List β} (h : ys.Perm l) : ∀ ts : List α, l = ts.map f → ∃ zs : List α, zs.Perm ts ∧ zs.map f = ys := by
  induction h with
  | nil =>
    intro ts e
    exact ⟨ts, .refl _, e.symm⟩
  | cons x _ ih =>
    intro ts e
    match ts, e with
    | t :: ts, e =>
      obtain ⟨e1, e2⟩ := List.cons.inj e
      obtain ⟨zs, p, m⟩ := ih ts e2
      exact ⟨t :: zs, p.cons t, by rw [List.map_cons, m, e1]⟩
  | swap x y l =>
    intro ts e
    match ts, e with
    | a :: b :: ts, e =>
      obtain ⟨e1, e2⟩ := List.cons.inj e
      obtain ⟨e2, e3⟩ := List.cons.inj e2
      exact ⟨b :: a :: ts, .swap a b ts, by rw [List.map_cons, List.map_cons, ← e1, ← e2, e3]⟩
  | trans _ _ ih1 ih2 =>
    intro ts e
    obtain ⟨zs, p, m⟩ := ih2 ts e
    obtain ⟨us, p2, m2⟩ := ih1 zs m.symm
    exact ⟨us, p2.trans p, m2⟩
theorem k_lc {wi : TI} {g : TG} {tt : TT} {te : TE} {vs : List Nat} {σ : L2.St} {H : Hp} {Q : VK} (h : wi σ H fun J H1 => ∀ D, H1 D = none → ∃ W : Nat → Nat → Hp → Prop, (∃ m, W 0 m (upd H1 D (.lst []))) ∧ ∀ i m H, W i m H →
      (J.stop i H ∧ Q (.ref D) H) ∨ (J.go i H ∧ ∃ Nx : Hp → Prop, (∀ H', Nx H' → ∃ m', m' < m ∧ W (i + 1) m' H') ∧ ∀ x H', J.yld i H x H' → g x (wipe σ vs) H' fun σ2 H2 => wipe σ2 vs = wipe σ vs ∧ tt σ2 H2 fun b H3 =>
        if b = true then te σ2 H3 fun y H4 => ∃ acc, H4 D = some (.lst acc) ∧ acc.length < sizeLine ∧ Nx (upd H4 D (.lst (acc ++ [y]))) else Nx H3)) : tLc wi g tt te vs σ H Q := h
/-- an f-string -/
def tJ (ts : List TE) : TE := fun σ H Q => tJs ts Str.empty σ H fun out H1 => Q (V.str out) H1
theorem k_tJ {ts : List TE} {σ : L2.St} {H : Hp} {Q : VK} (h : tJs ts Str.empty σ H fun out H1 => Q (V.str out) H1) : tJ ts σ H Q := h
theorem pe_tJ {X : Cx} {v1 v2 : Expr} {rest : List Expr} {ts : List TE} {pos : Pos} (h : PJ X (v1 :: v2 :: rest) ts) : PE X (.JoinedStr (v1 :: v2 :: rest) pos) (tJ ts) := pe_joined h
theorem k_tJc {t : TE} {ts : List TE} {acc : Str} {σ : L2.St} {H : Hp} {Q : Str → Hp → Prop} (h : t σ H fun x H1 => ∃ y : Str, x = .str y ∧ (acc ++ y).length ≤ sizeLine ∧ tJs ts (acc ++ y) σ H1 Q) : tJs (t :: ts) acc σ H Q := h
theorem k_tJn {acc : Str} {σ : L2.St} {H : Hp} {Q : Str → Hp → Prop} (h : Q acc H) : tJs [] acc σ H Q := h
theorem k_fmt {te : TE} {σ : L2.St} {H : Hp} {Q : VK} (h : te σ H fun x H1 => (∃ y : Str, x = .str y ∧ y.length ≤ sizeLine ∧ Q (.str y) H1) ∨ ∃ i : Int, x = .int i ∧ i.natAbs.log2 < 1920 ∧ Q (.str (toString i)) H1) : tFmt te σ H Q := h
theorem k_fmtS {z acc : Str} {Q : Str → Prop} {R : Int → Prop} (l : z.length ≤ sizeLine) (l2 : (acc ++ z).length ≤ sizeLine) (h : Q z) :
    (∃ y : Str, V.str z = .str y ∧ y.length ≤ sizeLine ∧ ∃ y1 : Str, V.str y = .str y1 ∧ (acc ++ y1).length ≤ sizeLine ∧ Q y1) ∨ ∃ i : Int, V.str z = .int i ∧ i.natAbs.log2 < 1920 ∧ R i := .inl ⟨z, rfl, l, z, rfl, l2, h⟩
theorem k_txt {z acc : Str} {Q : Str → Prop} (l : (acc ++ z).length ≤ sizeLine) (h : Q z) : ∃ y : Str, V.str z = .str y ∧ (acc ++ y).length ≤ sizeLine ∧ Q y := ⟨z, rfl, l, h⟩
theorem c_lenK {X : Cx} {K : PySem.W.Frag} (h : X.K = K) : CallR X (.builtin "len") (Own.rLen K) := by
  subst h
  exact c_len
theorem pe_makeR0 {X : Cx} {CX : CXT} {k : Nat} {f C : Addr} {sp : Sp} {E : XK} {x : Str} {p pos : Pos} (M : Mk X.K C f) (F : FnR X.prog X.w X.K X.mg X.base CX k f sp) (hr : Room (k + 1) X.A) (gl : Gl X x) (at_ : X.mg x = some (.ref C)) (px : Passes CX X E)
    (nodbg : (x == ("__debug__" : Str)) = false := by decide) : PE X (.Call (.Name x p) [] [] pos) (StX.tMakeR C sp E tNil) := by
  constructor
  intro pins s σ H Q I q
  refine wpAny_Call_Name_kw (ld_glob I gl at_ ?_ nodbg)
  have h := StX.run_makeR (us := []) (vs := []) M F hr px I .nil q
  refine PySem.W.callWith_K0 I.kIn M.kp ?_
  exact h
theorem k_makeR {C : Addr} {sp : Sp} {E : XK} {t : TA} {σ : L2.St} {H : Hp} {Q : VK} (h : t σ H fun vs H1 => ∀ (x dx : Addr), H1 x = none → H1 dx = none → dx ≠ x → sp (V.ref x :: vs) (upd (upd H1 dx (HO.own x)) x (HO.ins C dx [])) (fun v H2 => v = V.non ∧ Q (V.ref x) H2) E) : StX.tMakeR C sp E t σ H Q := h
end Own

set_option Elab.async false
set_option maxRecDepth 100000
set_option maxHeartbeats 4000000
set_option linter.unusedVariables false
namespace K11
open PySem PySem.Spec PyProof.Rows L2 Own
def top (i : Nat) : Stmt := PySem.Challenge.pw_ownwake_k11_columns_that_are_read.main.body.getD i (.Pass ⟨0, 0, 0, 0⟩)
-- steps
local macro_rules | `(tactic| walk_at "lk") => `(tactic| first
  | assumption | exact upd_same
  | ((with_reducible refine' lk_new ?e (by assumption)); (case e => walk_at "lk"))
  | ((with_reducible refine' lk_ext (by assumption) ?e); (case e => walk_at "lk"))
  | ((with_reducible refine' lk_same (by assumption) ?e); (case e => walk_at "lk")))
local macro_rules | `(tactic| walk_at "sq") => `(tactic| first | assumption | exact SqL.of (by walk_at "lk") | exact SqT.of (by walk_at "lk"))
local macro_rules | `(tactic| walk_at "r1") => `(tactic| first
  | with_reducible refine k_seq ?_ | with_reducible refine k_asg ?_ | with_reducible refine k_ret ?_ | with_reducible refine k_drop ?_ | with_reducible refine k_next ?_ | with_reducible refine k_ifS ?_
  | ((with_reducible refine' k_var ?e ?_); (case e => exact rfl)) | with_reducible refine k_c ?_ | with_reducible refine k_op ?_ | with_reducible refine k_un ?_ | with_reducible refine k_test ?_ | with_reducible refine k_B ?_
  | with_reducible refine k_and ?_ | with_reducible refine k_or ?_ | with_reducible refine k_not ?_ | with_reducible refine k_andV ?_ | with_reducible refine k_orV ?_ | with_reducible refine k_notV ?_ | with_reducible refine k_if ?_
  | with_reducible refine k_nil ?_ | with_reducible refine k_cons ?_ | with_reducible refine k_tup ?_ | with_reducible refine k_lst ?_ | with_reducible refine k_call ?_ | with_reducible refine k_cb ?_ | with_reducible refine k_ck ?_
  | with_reducible refine k_par ?_ | with_reducible refine k_par1 ?_ | with_reducible refine k_tr ?_ | with_reducible refine k_rI0 ?_ | with_reducible refine k_rU ?_
  | with_reducible refine k_gN ?_ | with_reducible refine k_gS ?_ | with_reducible refine k_gNil ?_ | with_reducible refine k_gCons ?_ | with_reducible refine k_bm0 ?_ | with_reducible refine k_bm ?_
  | with_reducible refine k_for ?_ | with_reducible refine k_iL ?_ | with_reducible refine k_iT ?_ | with_reducible refine k_iR1 ?_ | ((with_reducible refine k_iR1i ?e ?_); (case e => first | decide | exact ⟨by omega, by omega⟩))
  | with_reducible refine k_max ?_ | with_reducible refine k_isB ?_ | with_reducible refine k_sl ?_ | with_reducible refine k_noP ?_ | with_reducible refine k_part ?_ | with_reducible refine k_partI ?_ | with_reducible refine k_revL ?_
  | ((with_reducible refine' k_ixqT ?e ?f ?_); (case e => walk_at "sq"); (case f => first | exact rfl | exact atI_head))
  | ((with_reducible refine' k_ixqL ?e ?f ?_); (case e => walk_at "sq"); (case f => first | exact rfl | exact atI_head))
  | ((with_reducible refine' k_lenL ?e ?_); (case e => walk_at "sq"))
  | ((with_reducible refine' k_lenT ?e ?_); (case e => walk_at "sq"))
  | ((with_reducible refine' k_ixL ?e ?f ?_); (case e => walk_at "sq"); (case f => first | exact rfl | exact atI_head))
  | ((with_reducible refine' k_ixT ?e ?f ?_); (case e => walk_at "sq"); (case f => first | exact rfl | exact atI_head))
  | ((with_reducible refine k_eq ?e ?_); (case e => exact rfl)) | ((with_reducible refine k_ne ?e ?_); (case e => exact rfl))
  | ((with_reducible refine k_rI ?e ?_); (case e => first | assumption | omega | decide | exact ⟨by omega, by omega⟩ | exact .inl ⟨by omega, by omega⟩ | exact .inr ⟨by omega, by omega⟩)))
local macro_rules | `(tactic| walk_at "rd") => `(tactic| repeat walk_at "r1")
local macro_rules | `(tactic| walk_at "r2") => `(tactic| first
  | walk_at "r1"
  | with_reducible refine k_dget ?_
  | with_reducible refine k_dput ?_
  | with_reducible refine k_isNv ?_
  | with_reducible refine k_notNv ?_
  | with_reducible refine k_str ?_
  | with_reducible refine k_enumT ?_
  | with_reducible refine k_zipA ?_
  | with_reducible refine k_chain ?_
  | ((with_reducible refine' k_dgS ?e dkv_cells ?_); (case e => walk_at "lk"))
  | ((with_reducible refine' k_dgS ?e dkv_mixed ?_); (case e => walk_at "lk"))
  | ((with_reducible refine' k_dgS ?e dkv_turn ?_); (case e => walk_at "lk")))
local macro_rules | `(tactic| walk_at "rr") => `(tactic| repeat walk_at "r2")
-- steps end
abbrev s_deck : Stmt := top 69
theorem sc_deck : FnScope ["_law_script", "_law_mixed", "_law_cell"] ["_law_script"] (defScope s_deck) :=
  ⟨rfl, rfl, rfl, by decide +kernel, rfl, by decide +kernel, by decide +kernel⟩
abbrev s_draw : Stmt := top 70
theorem sc_draw : FnScope ["_law_deck_here", "_law_bound", "_law_number", "_law_turn", "_law_cell"] ["_law_deck_here", "_law_bound"] (defScope s_draw) :=
  ⟨rfl, rfl, rfl, by decide +kernel, rfl, by decide +kernel, by decide +kernel⟩
abbrev s_pick : Stmt := top 71
theorem sc_pick : FnScope ["_law_deck_here", "_law_some"] ["_law_deck_here", "_law_some"] (defScope s_pick) :=
  ⟨rfl, rfl, rfl, by decide +kernel, rfl, by decide +kernel, by decide +kernel⟩
theorem dp_ints {K : PySem.W.Frag} {H : Hp} : ∀ xs : List Int, DpAll K H (xs.map V.int) (xs.map PyData.int)
  | [] => .nil
  | x :: xs => .cons (.int x) (dp_ints xs)
theorem lay_ints : ∀ xs : List Int, SeqAt.shaped (.list (xs.map PyData.int)) = true := by
  intro xs
  have h1 : ∀ ys : List Int, PyData.canLayAll0 (ys.map PyData.int) = true := by
    intro ys
    induction ys with
    | nil => rfl
    | cons y ys ih => simpa [PyData.canLayAll0, PyData.canLay0] using ih
  have h2 : ∀ ys : List Int, PyData.depthAll (ys.map PyData.int) = 0 := by
    intro ys
    induction ys with
    | nil => rfl
    | cons y ys ih => simp [PyData.depthAll, PyData.depth, ih]
  unfold SeqAt.shaped
  simp [PyData.canLay0, PyData.depth, h1, h2]
theorem eq_nil : PyData.eqv (.list []) (.list []) = true := by simp [PyData.eqv, PyData.eqvAll]

section
variable {P : Program} {w : World} {K : PySem.W.Frag} {mg : Str → Option Value} {g0 : Heap}
def spDraw : Sp := fun vs H Q _ => ∃ (d c : Addr) (b many : Int), vs = [.ref d, .int many] ∧ DeckE d c b H ∧ b ≤ 1000000000 ∧ 0 < many ∧ many ≤ 1000000000000 ∧
  ∀ (r : Int) (H' : Hp), 0 ≤ r → r < many → DeckE d c (b + 1) H' → Ext (Dk d c) H H' → Q (.int r) H'
theorem ok_draw {f : Addr} {fd : FuncData} (F : Fun K "_law_draw" "_law_draw" s_draw f fd) (z_int : mg "int" = none) : GOk P w K mg g0 CX0 1 f fd ["_law_deck_here", "_law_bound"] spDraw := by
  have nd := sc_draw.nd
  refine okG F sc_draw (fun vs H Q E h => ?_) (fun cdv A up s H vs Q E qt hr h => ?_)
  · obtain ⟨d, c, b, many, rfl, _⟩ := h
    rfl
  · obtain ⟨d, c, b, many, rfl, D, hb, h0, h1, k⟩ := h
    have hu := hu_of hr
    refine ⟨_, (pss_cons (ps_par (i := 3) (j := 2) (by rfl) nd rfl rfl (by decide) rfl rfl (pa_cons (pe_op op_add (pe_dget hu (pv 0) pe_str (fun _ _ => rfl)) pe_int) (pa_cons (pe_dget hu (pv 0) pe_str (fun _ _ => rfl)) pa_nil)) (by rfl))
        (pss_cons (ps_dput hu (pv 0) pe_str (pv 3) rfl)
        (Evl.pss_cut (ps_if (pt_cmpR (op_neD hr.units) (pe_dget hu (pv 0) pe_str (fun _ _ => rfl)) (pe_lst pa_nil) (nomark _)) (pss_cons (ps_set (i := 4) nd rfl (Or.inl rfl) (pe_bm0 PySem.F.plainAttrs_list PySem.F.slot_list_pop PySem.F.type_list_pop mt_pop (pe_dget hu (pv 0) pe_str (fun _ _ => rfl))))
        (pss_cons (ps_if (pt_cmpR op_ge (pv 4) (pe_op op_pow pe_int pe_int) (nomark _)) (pss_cons (ps_expr (pe_bm PySem.F.plainAttrs_list PySem.F.slot_list_append PySem.F.type_list_append mt_append (pe_dget hu (pv 0) pe_str (fun _ _ => rfl)) (pa_cons (pe_op op_fdivW (pv 4) (pv 1)) pa_nil)))
        (pss_one (ps_ret (pe_op op_mod (pe_callTy call_int1 (by rfl) z_int (by decide +kernel) (pa_cons (pv 4) pa_nil)) (pv 1))))) pss_nil)
        (pss_one (ps_set (i := 2) nd rfl (Or.inl rfl) (pe_op op_add (pv 2) (pv 4)))))) pss_nil)
        (pss_cons (ps_set (i := 2) nd rfl (Or.inl rfl) (pe_op op_mul (pe_callTy call_int1 (by rfl) z_int (by decide +kernel) (pa_cons (pe_op op_add (pe_op op_add (pe_op op_mod (pe_callTy call_int1 (by rfl) z_int (by decide +kernel) (pa_cons (pv 2) pa_nil)) pe_int) (pe_op op_mul (pe_op op_mul pe_int (pv 3)) (pv 3))) pe_int) pa_nil)) pe_int))
        (pss_cons (ps_set (i := 2) nd rfl (Or.inl rfl) (pe_op op_mod (pe_callTy call_int1 (by rfl) z_int (by decide +kernel) (pa_cons (pv 2) pa_nil)) pe_int))
        (pss_cons (ps_set (i := 2) nd rfl (Or.inl rfl) (pe_op op_mod (pe_callTy call_int1 (by rfl) z_int (by decide +kernel) (pa_cons (pe_op op_add (pe_op op_add (pe_op op_mul (pv 2) (pv 2)) (pe_op op_mul pe_int (pv 3))) pe_int) pa_nil)) pe_int))
        (pss_one (ps_ret (pe_op op_mod (pe_callTy call_int1 (by rfl) z_int (by decide +kernel) (pa_cons (pe_op op_fdiv (pe_op op_mod (pe_callTy call_int1 (by rfl) z_int (by decide +kernel) (pa_cons (pe_op op_mul (pv 2) pe_int) pa_nil)) pe_int) pe_int) pa_nil)) (pv 1)))))))))), ?_⟩
    obtain ⟨xs, m, n, ne, hd, hc, m0, m1, n0, n1, hl⟩ := D
    walk_at "rr"
    refine k_dgS hd dkw_draws ?_
    walk_at "rr"
    refine k_dgS hd dkw_mixed ?_
    walk_at "rr"
    refine k_dpS hd (by show 3 < 100000; decide) ?_
    rw [dkw_put]
    have x1 : Ext (Dk d c) H (upd H d (.dK (dkw c m (n + 1)))) := Ext.upd hd (.inl rfl) (fun _ z => by cases z)
    have hd1 : upd H d (.dK (dkw c m (n + 1))) d = some (.dK (dkw c m (n + 1))) := upd_same
    have hc1 : upd H d (.dK (dkw c m (n + 1))) c = some (.lst (xs.map V.int)) := (upd_ne ne.symm).trans hc
    generalize upd H d (.dK (dkw c m (n + 1))) = H1 at x1 hd1 hc1 ⊢
    walk_at "rr"
    let Mid : L2.St → Hp → Prop := fun σ' H' => ∃ (num : Int) (ys : List Int) (o : Option V), σ' = [some (.ref d), some (.int many), some (.int num), some (.int (n + 1)), o] ∧ Ext (Dk d c) H H' ∧
      H' d = some (.dK (dkw c m (n + 1))) ∧ H' c = some (.lst (ys.map V.int)) ∧ ys.length ≤ 63
    refine ⟨Mid, ?_, ?_⟩
    · walk_at "rr"
      refine k_dgS hd1 dkw_cells ?_
      walk_at "rr"
      refine ⟨k_sz rfl, fun p hp => ?_⟩
      have x2 : Ext (Dk d c) H (upd H1 p (.lst [])) := x1.trans (ext_new hp)
      have hd2 := lk_new (o := .lst []) hd1 hp
      have hc2 := lk_new (o := .lst []) hc1 hp
      have hp2 : upd H1 p (.lst []) p = some (.lst []) := upd_same
      generalize upd H1 p (.lst []) = H2 at x2 hd2 hc2 hp2 ⊢
      refine ⟨.list (xs.map .int), .list [], .lst (SqL.of hc2) (dp_ints xs), .lst (SqL.of hp2) .nil, lay_ints xs, lay_ints [], ?_⟩
      rcases List.eq_nil_or_concat xs with rfl | ⟨zs, z, rfl⟩
      · refine ⟨_, rfl, ?_⟩
        rw [show PyData.eqv (.list (List.map PyData.int [])) (.list []) = true from eq_nil]
        refine iteF ?_
        exact ⟨m, [], _, rfl, x2, hd2, hc2, Nat.zero_le _⟩
      · have hz : (zs.concat z).map V.int = zs.map V.int ++ [V.int z] := by simp
        have hz2 : zs.length ≤ 62 := by simp at hl; omega
        refine ⟨_, rfl, ?_⟩
        rw [show PyData.eqv (.list (List.map PyData.int (zs.concat z))) (.list []) = false by
          cases zs <;> simp [PyData.eqv, PyData.eqvAll]]
        refine iteT ?_
        walk_at "rr"
        refine k_dgS hd2 dkw_cells ?_
        walk_at "rr"
        refine ⟨k_tyL hc2, ?_⟩
        rw [hz] at hc2
        refine k_pop (v := .int z) hc2 (by simp) ?_
        rw [List.dropLast_concat]
        have x3 : Ext (Dk d c) H (upd H2 c (.lst (zs.map V.int))) := x2.trans (Ext.upd hc2 (.inr rfl) (fun _ z => by cases z))
        have hd3 : upd H2 c (.lst (zs.map V.int)) d = some (.dK (dkw c m (n + 1))) := (upd_ne ne).trans hd2
        have hc3 : upd H2 c (.lst (zs.map V.int)) c = some (.lst (zs.map V.int)) := upd_same
        generalize upd H2 c (.lst (zs.map V.int)) = H3 at x3 hd3 hc3 ⊢
        walk_at "rr"
        refine k_ite (fun _ => ?_) (fun _ => ?_)
        · walk_at "rr"
          refine k_dgS hd3 dkw_cells ?_
          walk_at "rr"
          refine ⟨k_tyL hc3, ?_⟩
          walk_at "rr"
          refine k_rI (wide_div (b := 40) h0 (by omega) (by decide) (by decide)) ?_
          walk_at "rr"
          refine k_app hc3 (by simp; exact Nat.lt_of_le_of_lt hz2 (by decide)) ?_
          walk_at "rr"
          refine .inl ⟨_, rfl, ?_⟩
          walk_at "rr"
          refine k _ _ (Int.emod_nonneg _ (by omega)) (Int.emod_lt_of_pos _ h0) ⟨zs ++ [z / many], m, n + 1, ne, (upd_ne ne).trans hd3, ?_, m0, m1, by omega, by omega, by simp; omega⟩ ?_
          · rw [upd_same]
            simp
          · exact x3.trans (Ext.upd hc3 (.inr rfl) (fun _ z => by cases z))
        · walk_at "rr"
          exact ⟨_, zs, _, rfl, x3, hd3, hc3, by omega⟩
    · rintro σ' H' ⟨num, ys, o, rfl, x2, hd2, hc2, hy⟩
      walk_at "rr"
      refine .inl ⟨_, rfl, ?_⟩
      walk_at "rr"
      refine .inl ⟨_, rfl, ?_⟩
      walk_at "rr"
      refine .inl ⟨_, rfl, ?_⟩
      walk_at "rr"
      refine .inl ⟨_, rfl, ?_⟩
      walk_at "rr"
      refine .inl ⟨_, rfl, ?_⟩
      walk_at "rr"
      refine .inl ⟨_, rfl, ?_⟩
      walk_at "rr"
      exact k _ _ (Int.emod_nonneg _ (by omega)) (Int.emod_lt_of_pos _ h0) ⟨ys, m, n + 1, ne, hd2, hc2, m0, m1, by omega, by omega, hy⟩ x2

theorem atI_in {xs : List V} {r : Int} (h0 : 0 ≤ r) (h1 : r < (xs.length : Int)) : ∃ x, x ∈ xs ∧ atI xs r = some x := by
  have h2 : r.toNat < xs.length := by omega
  refine ⟨xs[r.toNat], List.getElem_mem h2, ?_⟩
  have e : ((r.toNat : Nat) : Int) = r := by omega
  have q : atI xs ((r.toNat : Nat) : Int) = some xs[r.toNat] := atI_nat (List.getElem?_eq_getElem h2)
  rw [e] at q
  exact q
def spPick : Sp := fun vs H Q _ => ∃ (d c l : Addr) (b : Int) (xs : List V), vs = [.ref d, .ref l] ∧ DeckE d c b H ∧ b ≤ 1000000000 ∧ ((H l = some (.lst xs) ∧ ¬ Dk d c l) ∨ H l = some (.tup xs)) ∧ 0 < xs.length ∧ xs.length ≤ 1000 ∧
  ∀ (x : V) (H' : Hp), x ∈ xs → DeckE d c (b + 1) H' → Ext (Dk d c) H H' → Q x H'
theorem ok_pick {f : Addr} {fd : FuncData} (F : Fun K "_law_pick" "_law_pick" s_pick f fd) (z_len : mg "len" = none)
    (C_draw : Cal P w K mg g0 "_law_draw" 1 ["_law_deck_here", "_law_bound"] spDraw) : GOk P w K mg g0 CX0 2 f fd ["_law_deck_here", "_law_some"] spPick := by
  have nd := sc_pick.nd
  refine okG F sc_pick (fun vs H Q E h => ?_) (fun cdv A up s H vs Q E qt hr h => ?_)
  · obtain ⟨d, c, l, b, xs, rfl, _⟩ := h
    rfl
  · obtain ⟨d, c, l, b, xs, rfl, D, hb, hl, l0, l1, k⟩ := h
    refine ⟨_, (pss_one (ps_ret (pe_ix ix_seq (pv 1) (pe_c C_draw qt (hr.mono (by decide)) (pa_cons (pv 0) (pa_cons (pe_callB c_len (by rfl) z_len (by decide +kernel) (pa_cons (pv 1) pa_nil)) pa_nil))) (fun _ _ => rfl)))), ?_⟩
    rcases hl with ⟨hl, ml⟩ | hl
    · walk_at "rr"
      refine ⟨d, c, b, _, rfl, D, hb, by omega, by omega, fun r H' r0 r1 D' x' => ?_⟩
      obtain ⟨x, hx, he⟩ := atI_in r0 r1
      refine k_ixqL (SqL.of (x'.2 _ _ ml hl)) he ?_
      exact k x H' hx D' x'
    · walk_at "rr"
      refine ⟨d, c, b, _, rfl, D, hb, by omega, by omega, fun r H' r0 r1 D' x' => ?_⟩
      obtain ⟨x, hx, he⟩ := atI_in r0 r1
      refine k_ixqT (SqT.of (x'.1 _ _ hl)) he ?_
      exact k x H' hx D' x'
theorem cut_ints (ns : List Int) (lo hi : Option Int) : ∃ ms : List Int, cutV (ns.map V.int) lo hi = ms.map V.int ∧ ms.length ≤ ns.length := by
  refine ⟨(ns.drop (HT.sIx ns.length 0 lo)).take (HT.sIx ns.length ns.length hi - HT.sIx ns.length 0 lo), ?_, ?_⟩
  · unfold cutV
    rw [List.length_map, List.map_take, List.map_drop]
  · rw [List.length_take, List.length_drop]
    omega
def spDeck (K : PySem.W.Frag) : Sp := fun vs H Q _ => ∃ (a : Addr) (ns : List Int), vs = [.ref a] ∧ SqL K H a (ns.map V.int) ∧ ns.length ≤ 63 ∧
  ∀ (d c : Addr) (H' : Hp), H d = none → H c = none → DeckE d c 0 H' → Same H H' → Q (.ref d) H'
theorem ok_deck {f : Addr} {fd : FuncData} (F : Fun K "_law_deck" "_law_deck" s_deck f fd) (z_list : mg "list" = none) (z_int : mg "int" = none) : GOk P w K mg g0 CX0 1 f fd ["_law_script"] (spDeck K) := by
  have nd := sc_deck.nd
  refine okG F sc_deck (fun vs H Q E h => ?_) (fun cdv A up s H vs Q E qt hr h => ?_)
  · obtain ⟨a, ns, rfl, _⟩ := h
    rfl
  · obtain ⟨a, ns, rfl, hS, hl, k⟩ := h
    refine ⟨_, (pss_cons (ps_set (i := 1) nd rfl (Or.inl rfl) pe_int)
        (pss_cons (ps_for PassesOwn.never rfl (pi_list (pe_slice sl_list (pv 0) po_none (po_some pe_int))) (pg_name (i := 2) nd rfl (Or.inl rfl)) (pss_one (ps_set (i := 1) nd rfl (Or.inl rfl) (pe_op op_mod (pe_callTy call_int1 (by rfl) z_int (by decide +kernel) (pa_cons (pe_op op_add (pe_op op_add (pe_op op_mul (pv 1) pe_int) (pe_op op_mod (pe_callTy call_int1 (by rfl) z_int (by decide +kernel) (pa_cons (pv 2) pa_nil)) pe_int)) pe_int) pa_nil)) pe_int))))
        (pss_one (ps_ret (pe_disp (pps_cons pe_str (pe_revL (pe_callTy c_list (by rfl) z_list (by decide +kernel) (pa_cons (pe_slice sl_list (pv 0) po_none (po_some pe_int)) pa_nil))) (pps_cons pe_str (pv 1) (pps_cons pe_str pe_int pps_nil))) rfl rfl (by decide) (by decide)))))), ?_⟩
    walk_at "rr"
    refine k_slL hS (fun p hp => ?_)
    obtain ⟨ms, em, lm⟩ := cut_ints ns none (some 63)
    rw [em]
    have s1 : Same H (upd H p (.lst (ms.map V.int))) := Same.upd hp
    have hp1 : upd H p (.lst (ms.map V.int)) p = some (.lst (ms.map V.int)) := upd_same
    generalize upd H p (.lst (ms.map V.int)) = H1 at s1 hp1 ⊢
    let Pv : Nat → L2.St → Hp → Prop := fun i σ H' => ∃ (m : Int) (v : Option V), σ = [some (.ref a), some (.int m), v] ∧ H1 = H' ∧ 0 ≤ m ∧ m < 4294967296
    refine ⟨p, rfl, ⟨_, SqL.of hp1⟩, for_list (xs := ms.map V.int) Pv ⟨_, _, rfl, rfl, by decide, by decide⟩ (fun i σ H' _ h => ?_) (fun i x σ H' hx h => ?_) (fun σ H' h => ?_)⟩
    · obtain ⟨m, v, rfl, rfl, _⟩ := h
      exact SqL.of hp1
    · obtain ⟨m, v, rfl, rfl, m0, m1⟩ := h
      rw [List.getElem?_map] at hx
      obtain ⟨z, hz, rfl⟩ := Option.map_eq_some_iff.mp hx
      walk_at "rr"
      refine .inl ⟨_, rfl, ?_⟩
      walk_at "rr"
      refine .inl ⟨_, rfl, ?_⟩
      walk_at "rr"
      exact ⟨_, _, rfl, rfl, by omega, by omega⟩
    · obtain ⟨m, v, rfl, rfl, m0, m1⟩ := h
      walk_at "rr"
      refine k_disp3 fun d hd => ?_
      have s3 : Same H (upd H1 d (.dK [])) := s1.trans (Same.upd hd)
      have hd3 : upd H1 d (.dK []) d = some (.dK []) := upd_same
      have hd0 := same_free s1 hd
      generalize upd H1 d (.dK []) = H3 at s3 hd3 ⊢
      walk_at "rr"
      refine k_slL (SqL.ext (M := fun _ => False) (Own.Same.ext s3) hS fun z => z) (fun q hq => ?_)
      rw [em]
      have s4 : Same H (upd H3 q (.lst (ms.map V.int))) := s3.trans (Same.upd hq)
      have hq4 : upd H3 q (.lst (ms.map V.int)) q = some (.lst (ms.map V.int)) := upd_same
      have hd4 := lk_new (o := .lst (ms.map V.int)) hd3 hq
      generalize upd H3 q (.lst (ms.map V.int)) = H4 at s4 hq4 hd4 ⊢
      walk_at "rr"
      refine k_listL (SqL.of hq4) (fun q2 hq2 => ?_)
      have s5 : Same H (upd H4 q2 (.lst (ms.map V.int))) := s4.trans (Same.upd hq2)
      have hq5 : upd H4 q2 (.lst (ms.map V.int)) q2 = some (.lst (ms.map V.int)) := upd_same
      have hd5 := lk_new (o := .lst (ms.map V.int)) hd4 hq2
      generalize upd H4 q2 (.lst (ms.map V.int)) = H5 at s5 hq5 hd5 ⊢
      walk_at "rr"
      refine ⟨q2, _, rfl, SqL.of hq5, fun c hc => ?_⟩
      have ndc := ne_of_none hd5 hc
      have s6 : Same H (upd H5 c (.lst (ms.map V.int).reverse)) := s5.trans (Same.upd hc)
      have hd6 := lk_new (o := .lst (ms.map V.int).reverse) hd5 hc
      have hc6 : upd H5 c (.lst (ms.map V.int).reverse) c = some (.lst (ms.map V.int).reverse) := upd_same
      have hc0 := same_free s5 hc
      generalize upd H5 c (.lst (ms.map V.int).reverse) = H6 at s6 hd6 hc6 ⊢
      walk_at "rr"
      refine ⟨hd6, dkw c m 0, rfl, by show 3 ≤ 15; decide, ?_⟩
      rw [dkw_merge]
      refine k d c _ hd0 hc0 ⟨ms.reverse, m, 0, ndc, upd_same, ?_, m0, m1, Int.le_refl _, Int.le_refl _, ?_⟩ (same_off s6 hd0)
      · rw [upd_ne ndc.symm, hc6, List.map_reverse]
      · rw [List.length_reverse]
        omega
end
end K11

set_option Elab.async false
set_option maxRecDepth 100000
set_option maxHeartbeats 4000000
set_option linter.unusedVariables false
namespace K11
open PySem PySem.Spec PyProof.Rows L2 Own
-- steps
local macro_rules | `(tactic| walk_at "lk") => `(tactic| first
  | assumption | exact upd_same
  | ((with_reducible refine' lk_new ?e (by assumption)); (case e => walk_at "lk"))
  | ((with_reducible refine' lk_ext (by assumption) ?e); (case e => walk_at "lk"))
  | ((with_reducible refine' lk_same (by assumption) ?e); (case e => walk_at "lk")))
local macro_rules | `(tactic| walk_at "sq") => `(tactic| first | assumption | exact SqL.of (by walk_at "lk") | exact SqT.of (by walk_at "lk"))
local macro_rules | `(tactic| walk_at "r1") => `(tactic| first
  | with_reducible refine k_seq ?_ | with_reducible refine k_asg ?_ | with_reducible refine k_ret ?_ | with_reducible refine k_drop ?_ | with_reducible refine k_next ?_ | with_reducible refine k_ifS ?_
  | ((with_reducible refine' k_var ?e ?_); (case e => exact rfl)) | with_reducible refine k_c ?_ | with_reducible refine k_op ?_ | with_reducible refine k_un ?_ | with_reducible refine k_test ?_ | with_reducible refine k_B ?_
  | with_reducible refine k_and ?_ | with_reducible refine k_or ?_ | with_reducible refine k_not ?_ | with_reducible refine k_andV ?_ | with_reducible refine k_orV ?_ | with_reducible refine k_notV ?_ | with_reducible refine k_if ?_
  | with_reducible refine k_nil ?_ | with_reducible refine k_cons ?_ | with_reducible refine k_tup ?_ | with_reducible refine k_lst ?_ | with_reducible refine k_call ?_ | with_reducible refine k_cb ?_ | with_reducible refine k_ck ?_
  | with_reducible refine k_par ?_ | with_reducible refine k_par1 ?_ | with_reducible refine k_tr ?_ | with_reducible refine k_rI0 ?_ | with_reducible refine k_rU ?_
  | with_reducible refine k_gN ?_ | with_reducible refine k_gS ?_ | with_reducible refine k_gNil ?_ | with_reducible refine k_gCons ?_ | with_reducible refine k_bm0 ?_ | with_reducible refine k_bm ?_
  | with_reducible refine k_for ?_ | with_reducible refine k_iL ?_ | with_reducible refine k_iT ?_ | with_reducible refine k_iR1 ?_ | ((with_reducible refine k_iR1i ?e ?_); (case e => first | decide | exact ⟨by omega, by omega⟩))
  | with_reducible refine k_max ?_ | with_reducible refine k_isB ?_ | with_reducible refine k_sl ?_ | with_reducible refine k_noP ?_ | with_reducible refine k_part ?_ | with_reducible refine k_partI ?_ | with_reducible refine k_revL ?_
  | ((with_reducible refine' k_ixqT ?e ?f ?_); (case e => walk_at "sq"); (case f => first | exact rfl | exact atI_head))
  | ((with_reducible refine' k_ixqL ?e ?f ?_); (case e => walk_at "sq"); (case f => first | exact rfl | exact atI_head))
  | ((with_reducible refine' k_lenL ?e ?_); (case e => walk_at "sq"))
  | ((with_reducible refine' k_lenT ?e ?_); (case e => walk_at "sq"))
  | ((with_reducible refine' k_ixL ?e ?f ?_); (case e => walk_at "sq"); (case f => first | exact rfl | exact atI_head))
  | ((with_reducible refine' k_ixT ?e ?f ?_); (case e => walk_at "sq"); (case f => first | exact rfl | exact atI_head))
  | ((with_reducible refine k_eq ?e ?_); (case e => exact rfl)) | ((with_reducible refine k_ne ?e ?_); (case e => exact rfl))
  | ((with_reducible refine k_rI ?e ?_); (case e => first | assumption | omega | decide | exact ⟨by omega, by omega⟩ | exact .inl ⟨by omega, by omega⟩ | exact .inr ⟨by omega, by omega⟩)))
local macro_rules | `(tactic| walk_at "rd") => `(tactic| repeat walk_at "r1")
local macro_rules | `(tactic| walk_at "r2") => `(tactic| first
  | walk_at "r1"
  | with_reducible refine k_ifTt ?_ | with_reducible refine k_ifFf ?_ | with_reducible refine k_ifNt ?_ | with_reducible refine k_ifNf ?_
  | with_reducible refine k_makeR ?_ | with_reducible refine k_tJ ?_ | with_reducible refine k_tJc ?_ | with_reducible refine k_tJn ?_ | with_reducible refine k_fmt ?_ | with_reducible refine k_lc ?_ | with_reducible refine k_din ?_ | with_reducible refine k_fld ?_ | with_reducible refine k_dget ?_
  | with_reducible refine k_dput ?_
  | with_reducible refine k_isNv ?_
  | with_reducible refine k_notNv ?_
  | with_reducible refine k_str ?_
  | with_reducible refine k_enumT ?_
  | with_reducible refine k_zipA ?_
  | with_reducible refine k_chain ?_
  | ((with_reducible refine' k_dgS ?e dkv_cells ?_); (case e => walk_at "lk"))
  | ((with_reducible refine' k_dgS ?e dkv_mixed ?_); (case e => walk_at "lk"))
  | ((with_reducible refine' k_dgS ?e dkv_turn ?_); (case e => walk_at "lk")))
local macro_rules | `(tactic| walk_at "rr") => `(tactic| repeat walk_at "r2")
-- steps end
abbrev s_is_name : Stmt := top 9
theorem sc_is_name : FnScope ["thing", "letter"] ["thing"] (defScope s_is_name) :=
  ⟨rfl, rfl, rfl, by decide +kernel, rfl, by decide +kernel, by decide +kernel⟩
abbrev s_is_tuple : Stmt := top 10
theorem sc_is_tuple : FnScope ["thing", "size"] ["thing", "size"] (defScope s_is_tuple) :=
  ⟨rfl, rfl, rfl, by decide +kernel, rfl, by decide +kernel, by decide +kernel⟩
abbrev s_is_ascending : Stmt := top 11
theorem sc_is_ascending : FnScope ["things", "one", "other"] ["things"] (defScope s_is_ascending) :=
  ⟨rfl, rfl, rfl, by decide +kernel, rfl, by decide +kernel, by decide +kernel⟩
abbrev s__are_columns : Stmt := top 62
theorem sc__are_columns : FnScope ["thing", "column"] ["thing"] (defScope s__are_columns) :=
  ⟨rfl, rfl, rfl, by decide +kernel, rfl, by decide +kernel, by decide +kernel⟩
abbrev s__are_some : Stmt := top 63
theorem sc__are_some : FnScope ["thing", "columns", "column"] ["thing", "columns"] (defScope s__are_some) :=
  ⟨rfl, rfl, rfl, by decide +kernel, rfl, by decide +kernel, by decide +kernel⟩
abbrev s_is_table : Stmt := top 61
theorem sc_is_table : FnScope ["thing", "name", "columns", "indexes", "keyed"] ["thing"] (defScope s_is_table) :=
  ⟨rfl, rfl, rfl, by decide +kernel, rfl, by decide +kernel, by decide +kernel⟩
/-! ### names -/
theorem all_true {α : Type} (xs : List α) : (xs.map fun _ => true).all id = true := List.all_eq_true.mpr fun b hb => by
  obtain ⟨_, _, rfl⟩ := List.mem_map.mp hb
  rfl
def isLet (c : Nat) : Bool := decide (97 ≤ c) && decide (c ≤ 122)
def isNameB (z : Str) : Bool := decide (1 ≤ z.length) && decide (z.length ≤ 8) && z.cps.toList.all isLet
abbrev letters : Str := "abcdefghijklmnopqrstuvwxyz"
theorem let_in {c : Nat} (h : isLet c = true) : (!(Builtin.Str.occurrences letters ⟨#[c]⟩ 0 letters.length 1).isEmpty) = true := by
  have z : ∀ c : Nat, c < 123 → isLet c = true → (!(Builtin.Str.occurrences letters ⟨#[c]⟩ 0 letters.length 1).isEmpty) = true := by decide +kernel
  have h2 : c ≤ 122 := by
    unfold isLet at h
    simp at h
    exact h.2
  exact z c (by omega) h
section
variable {P : Program} {w : World} {K : PySem.W.Frag} {mg : Str → Option Value} {base : Heap}
def spName : Sp := fun vs H Q _ => ∃ z : Str, vs = [.str z] ∧ isNameB z = true ∧ ∀ H', Same H H' → Q (.bl true) H'
theorem ok_name {f : Addr} {fd : FuncData} (F : Fun K "is_name" "is_name" s_is_name f fd) (z_isinstance : mg "isinstance" = none) (z_str : mg "str" = none) (z_len : mg "len" = none) (z_all : mg "all" = none) {t : Tok} (c_LETTERS : mg "LETTERS" = some (.str letters t)) :
    FnOk P w K mg base CX0 1 f fd ["thing"] spName := by
  have nd := sc_is_name.nd
  refine F.ok sc_is_name (fun vs H Q E h => ?_) (fun cdv A up s H vs Q E hr h => ?_)
  · obtain ⟨z, rfl, _⟩ := h
    rfl
  · obtain ⟨z, rfl, hz, k⟩ := h
    refine ⟨_, (pss_one (ps_ret (pe_and (pe_callB call_isi (by rfl) z_isinstance (by decide +kernel) (pa_cons (pv 0) (pa_cons (pe_bltn (v := .ty "str") (by rfl) z_str PyProof.Rows.boot_str rfl) pa_nil))) (pe_and (pe_chain op_le op_le pe_int (pe_callB call_len_str (by rfl) z_len (by decide +kernel) (pa_cons (pv 0) pa_nil)) pe_int) (pe_one (pe_callB (cr_all rfl) (by rfl) z_all (by decide +kernel) (pa_cons (pe_lc (own := [("letter", 1)]) (g := (gName 1)) (tt := tYes) (te := (tOp _ (tVar 1) (tC (.str "abcdefghijklmnopqrstuvwxyz")))) (by rfl) nd (pi_str (pv 0)) (blkOk_by (own := [("letter", 1)]) (N := ["thing", "letter"]) (sc := defScope s_is_name) (by decide +kernel)) (fun _ _ _ _ _ => by exact (pg_name (i := 1) nd rfl (Or.inl rfl))) (fun _ _ _ _ _ => by exact pts_nil) (fun _ _ _ _ _ => by exact (pe_cmpR op_in_str (pv 1) (pe_glob (v := .str "abcdefghijklmnopqrstuvwxyz") rfl c_LETTERS ⟨_, rfl⟩) (by rfl)))) pa_nil))))))), ?_⟩
    walk_at "rr"
    refine isi_t (.base (.str z)) (b := true) (by decide +kernel) ?_
    walk_at "rr"
    walk_at "rr"
    have hz1 : 1 ≤ z.length ∧ z.length ≤ 8 ∧ z.cps.toList.all isLet = true := by
      unfold isNameB at hz
      simp only [Bool.and_eq_true, decide_eq_true_eq] at hz
      exact ⟨hz.1.1, hz.1.2, hz.2⟩
    obtain ⟨z1, z2, z3⟩ := hz1
    refine ⟨z, rfl, by rw [sizeLine_eq]; omega, ?_⟩
    walk_at "rr"
    refine k_iteD (fun _ => ?_) fun y => absurd (by omega) y
    walk_at "rr"
    refine k_iteD (fun _ => ?_) fun y => absurd (by omega) y
    walk_at "rr"
    walk_at "rr"
    refine ⟨z, rfl, fun D hD => ?_⟩
    refine lc_same walk_str (fun _ => .bl true) (fun _ => true) (by show z.cps.size < _; have : z.cps.size = z.length := rfl; omega) hD (fun _ _ => trivial) (fun k x H1 H2 hk s1 y Q1 R1 q1 _ => ?_) fun H1 s1 hD1 => ?_
    · obtain ⟨rfl, c, hc, rfl⟩ := y
      walk_at "rr"
      refine ⟨rfl, k_yes ?_⟩
      walk_at "rr"
      refine ⟨_, _, rfl, rfl, ?_⟩
      rw [let_in (List.all_eq_true.mp z3 c (by rw [Array.mem_toList_iff]; exact Array.mem_of_getElem? hc))]
      exact q1 rfl _ (Same.refl _)
    · rw [range_all] at hD1
      walk_at "rr"
      refine ⟨D, (List.range z.cps.size).map fun _ => true, rfl, SqL.of (by rw [hD1, List.map_map]; rfl), ?_⟩
      rw [all_true]
      exact k _ s1
def spTuple : Sp := fun vs H Q _ => ∃ (a : Addr) (xs : List V), vs = [.ref a, .int xs.length] ∧ H a = some (.tup xs) ∧ Q (.bl true) H
theorem ok_tuple {f : Addr} {fd : FuncData} (F : Fun K "is_tuple" "is_tuple" s_is_tuple f fd) (z_isinstance : mg "isinstance" = none) (z_tuple : mg "tuple" = none) (z_len : mg "len" = none) :
    FnOk P w K mg base CX0 1 f fd ["thing", "size"] spTuple := by
  have nd := sc_is_tuple.nd
  refine F.ok sc_is_tuple (fun vs H Q E h => ?_) (fun cdv A up s H vs Q E hr h => ?_)
  · obtain ⟨a, xs, rfl, _⟩ := h
    rfl
  · obtain ⟨a, xs, rfl, ha, k⟩ := h
    refine ⟨_, (pss_one (ps_ret (pe_and (pe_callB call_isi (by rfl) z_isinstance (by decide +kernel) (pa_cons (pv 0) (pa_cons (pe_bltn (v := .ty "tuple") (by rfl) z_tuple PyProof.Rows.boot_tuple rfl) pa_nil))) (pe_one (pe_cmpR op_eq (pe_callB (c_lenK (K := K) rfl) (by rfl) z_len (by decide +kernel) (pa_cons (pv 0) pa_nil)) (pv 1) (nomark _)))))), ?_⟩
    walk_at "rr"
    refine isi_t (.base (.tup ha)) (b := true) (by decide +kernel) ?_
    walk_at "rr"
    walk_at "rr"
    rw [decide_eq_true rfl]
    exact k
abbrev sLt (a b : Str) : Prop := a.cps.toList < b.cps.toList
def spAsc : Sp := fun vs H Q _ => ∃ (a : Addr) (zs : List Str), vs = [.ref a] ∧ H a = some (.tup (zs.map V.str)) ∧ zs.length ≤ 100 ∧ zs.Pairwise sLt ∧ ∀ H', Same H H' → Q (.bl true) H'
theorem ok_asc {f : Addr} {fd : FuncData} (F : Fun K "is_ascending" "is_ascending" s_is_ascending f fd) (z_zip : mg "zip" = none) (z_all : mg "all" = none) :
    FnOk P w K mg base CX0 1 f fd ["things"] spAsc := by
  have nd := sc_is_ascending.nd
  refine F.ok sc_is_ascending (fun vs H Q E h => ?_) (fun cdv A up s H vs Q E hr h => ?_)
  · obtain ⟨a, zs, rfl, _⟩ := h
    rfl
  · obtain ⟨a, zs, rfl, ha, hl, hp, k⟩ := h
    refine ⟨_, (pss_one (ps_ret (pe_callB (cr_all rfl) (by rfl) z_all (by decide +kernel) (pa_cons (pe_lc (own := [("one", 1), ("other", 2)]) (g := (gTup K 2 (gCons (gName 1) (gCons (gName 2) gNil)))) (tt := tYes) (te := (tOp _ (tVar 1) (tVar 2))) (by rfl) nd (RZ.pi_zipA (by rfl) z_zip (pa_cons (pv 0) (pa_cons (pe_slice sl_tupA (pv 0) (po_some pe_int) po_none) pa_nil))) (blkOk_by (own := [("one", 1), ("other", 2)]) (N := ["things", "one", "other"]) (sc := defScope s_is_ascending) (by decide +kernel)) (fun _ _ _ _ _ => by exact (pg_tup rfl (pgs_cons (pg_name (i := 1) nd rfl (Or.inl rfl)) (pgs_cons (pg_name (i := 2) nd rfl (Or.inl rfl)) pgs_nil)))) (fun _ _ _ _ _ => by exact pts_nil) (fun _ _ _ _ _ => by exact (pe_cmpR op_lt_str (pv 1) (pv 2) (nomark _)))) pa_nil)))), ?_⟩
    walk_at "rr"
    walk_at "rr"
    refine sla_of ha cut_from fun b H1 s1 hb => ?_
    rw [← List.map_drop] at hb
    walk_at "rr"
    refine ⟨a, b, _, _, rfl, .inr ⟨SqT.of (s1 _ _ ha), SqT.of hb, fun D hD => ?_⟩⟩
    refine lc_same (walk_zipT (n := zs.length - 1) (by simp only [List.length_map, List.length_drop]; omega)) (fun _ => .bl true) (fun _ => true) (by omega) hD (fun H2 s2 => ⟨SqT.of (s2 _ _ (s1 _ _ ha)), SqT.of (s2 _ _ hb)⟩) (fun k x H2 H3 hk s2 y Q1 R1 q1 _ => ?_) fun H2 s2 hD1 => ?_
    · obtain ⟨T, x1, x2, rfl, hT, rfl, e1, e2⟩ := y
      have e1 : (zs.map V.str)[k]? = some x1 := e1
      have e2 : ((zs.drop 1).map V.str)[k]? = some x2 := e2
      rw [List.getElem?_map] at e1 e2
      obtain ⟨y1, f1, rfl⟩ := Option.map_eq_some_iff.mp e1
      obtain ⟨y2, f2, rfl⟩ := Option.map_eq_some_iff.mp e2
      rw [List.getElem?_drop] at f2
      refine k_gTup (SqT.of upd_same) rfl ?_
      walk_at "rr"
      refine ⟨rfl, k_yes ?_⟩
      walk_at "rr"
      have lt : sLt y1 y2 := by
        obtain ⟨l1, rfl⟩ := List.getElem?_eq_some_iff.mp f1
        obtain ⟨l2, rfl⟩ := List.getElem?_eq_some_iff.mp f2
        exact List.pairwise_iff_getElem.mp hp _ _ l1 l2 (by omega)
      refine ⟨y1, y2, rfl, rfl, ?_⟩
      rw [decide_eq_true lt]
      exact q1 rfl _ (Same.upd hT)
    · rw [range_all] at hD1
      walk_at "rr"
      refine ⟨D, (List.range (zs.length - 1)).map fun _ => true, rfl, SqL.of (by rw [hD1, List.map_map]; rfl), ?_⟩
      rw [all_true]
      exact k _ (s1.trans s2)
end
end K11

set_option Elab.async false
set_option maxRecDepth 100000
set_option maxHeartbeats 4000000
set_option linter.unusedVariables false
namespace K11
open PySem PySem.Spec PyProof.Rows L2 Own
-- steps
local macro_rules | `(tactic| walk_at "lk") => `(tactic| first
  | assumption | exact upd_same
  | ((with_reducible refine' lk_new ?e (by assumption)); (case e => walk_at "lk"))
  | ((with_reducible refine' lk_ext (by assumption) ?e); (case e => walk_at "lk"))
  | ((with_reducible refine' lk_same (by assumption) ?e); (case e => walk_at "lk")))
local macro_rules | `(tactic| walk_at "sq") => `(tactic| first | assumption | exact SqL.of (by walk_at "lk") | exact SqT.of (by walk_at "lk"))
local macro_rules | `(tactic| walk_at "r1") => `(tactic| first
  | with_reducible refine k_seq ?_ | with_reducible refine k_asg ?_ | with_reducible refine k_ret ?_ | with_reducible refine k_drop ?_ | with_reducible refine k_next ?_ | with_reducible refine k_ifS ?_
  | ((with_reducible refine' k_var ?e ?_); (case e => exact rfl)) | with_reducible refine k_c ?_ | with_reducible refine k_op ?_ | with_reducible refine k_un ?_ | with_reducible refine k_test ?_ | with_reducible refine k_B ?_
  | with_reducible refine k_and ?_ | with_reducible refine k_or ?_ | with_reducible refine k_not ?_ | with_reducible refine k_andV ?_ | with_reducible refine k_orV ?_ | with_reducible refine k_notV ?_ | with_reducible refine k_if ?_
  | with_reducible refine k_nil ?_ | with_reducible refine k_cons ?_ | with_reducible refine k_tup ?_ | with_reducible refine k_lst ?_ | with_reducible refine k_call ?_ | with_reducible refine k_cb ?_ | with_reducible refine k_ck ?_
  | with_reducible refine k_par ?_ | with_reducible refine k_par1 ?_ | with_reducible refine k_tr ?_ | with_reducible refine k_rI0 ?_ | with_reducible refine k_rU ?_
  | with_reducible refine k_gN ?_ | with_reducible refine k_gS ?_ | with_reducible refine k_gNil ?_ | with_reducible refine k_gCons ?_ | with_reducible refine k_bm0 ?_ | with_reducible refine k_bm ?_
  | with_reducible refine k_for ?_ | with_reducible refine k_iL ?_ | with_reducible refine k_iT ?_ | with_reducible refine k_iR1 ?_ | ((with_reducible refine k_iR1i ?e ?_); (case e => first | decide | exact ⟨by omega, by omega⟩))
  | with_reducible refine k_max ?_ | with_reducible refine k_isB ?_ | with_reducible refine k_sl ?_ | with_reducible refine k_noP ?_ | with_reducible refine k_part ?_ | with_reducible refine k_partI ?_ | with_reducible refine k_revL ?_
  | ((with_reducible refine' k_ixqT ?e ?f ?_); (case e => walk_at "sq"); (case f => first | exact rfl | exact atI_head))
  | ((with_reducible refine' k_ixqL ?e ?f ?_); (case e => walk_at "sq"); (case f => first | exact rfl | exact atI_head))
  | ((with_reducible refine' k_lenL ?e ?_); (case e => walk_at "sq"))
  | ((with_reducible refine' k_lenT ?e ?_); (case e => walk_at "sq"))
  | ((with_reducible refine' k_ixL ?e ?f ?_); (case e => walk_at "sq"); (case f => first | exact rfl | exact atI_head))
  | ((with_reducible refine' k_ixT ?e ?f ?_); (case e => walk_at "sq"); (case f => first | exact rfl | exact atI_head))
  | ((with_reducible refine k_eq ?e ?_); (case e => exact rfl)) | ((with_reducible refine k_ne ?e ?_); (case e => exact rfl))
  | ((with_reducible refine k_rI ?e ?_); (case e => first | assumption | omega | decide | exact ⟨by omega, by omega⟩ | exact .inl ⟨by omega, by omega⟩ | exact .inr ⟨by omega, by omega⟩)))
local macro_rules | `(tactic| walk_at "rd") => `(tactic| repeat walk_at "r1")
local macro_rules | `(tactic| walk_at "r2") => `(tactic| first
  | walk_at "r1"
  | with_reducible refine k_ifTt ?_ | with_reducible refine k_ifFf ?_ | with_reducible refine k_ifNt ?_ | with_reducible refine k_ifNf ?_
  | with_reducible refine k_makeR ?_ | with_reducible refine k_tJ ?_ | with_reducible refine k_tJc ?_ | with_reducible refine k_tJn ?_ | with_reducible refine k_fmt ?_ | with_reducible refine k_lc ?_ | with_reducible refine k_din ?_ | with_reducible refine k_fld ?_ | with_reducible refine k_dget ?_
  | with_reducible refine k_dput ?_
  | with_reducible refine k_isNv ?_
  | with_reducible refine k_notNv ?_
  | with_reducible refine k_str ?_
  | with_reducible refine k_enumT ?_
  | with_reducible refine k_zipA ?_
  | with_reducible refine k_chain ?_
  | ((with_reducible refine' k_dgS ?e dkv_cells ?_); (case e => walk_at "lk"))
  | ((with_reducible refine' k_dgS ?e dkv_mixed ?_); (case e => walk_at "lk"))
  | ((with_reducible refine' k_dgS ?e dkv_turn ?_); (case e => walk_at "lk")))
local macro_rules | `(tactic| walk_at "rr") => `(tactic| repeat walk_at "r2")
-- steps end
section
variable {P : Program} {w : World} {K : PySem.W.Frag} {mg : Str → Option Value} {base : Heap}
def spCols : Sp := fun vs H Q _ => ∃ (a : Addr) (zs : List Str), vs = [.ref a] ∧ H a = some (.tup (zs.map V.str)) ∧ 1 ≤ zs.length ∧ zs.length ≤ 3 ∧ (∀ z ∈ zs, isNameB z = true) ∧ zs.Nodup ∧ ∀ H', Same H H' → Q (.bl true) H'
theorem ok_cols {f : Addr} {fd : FuncData} (F : Fun K "_are_columns" "_are_columns" s__are_columns f fd) (C_is_name : CalF P w K mg base "is_name" 1 ["thing"] spName)
    (z_isinstance : mg "isinstance" = none) (z_tuple : mg "tuple" = none) (z_len : mg "len" = none) (z_all : mg "all" = none) (z_set : mg "set" = none) {t : Tok} (c_MOST_COLUMNS : mg "MOST_COLUMNS" = some (.int 3 t)) :
    FnOk P w K mg base CX0 2 f fd ["thing"] spCols := by
  have nd := sc__are_columns.nd
  refine F.ok sc__are_columns (fun vs H Q E h => ?_) (fun cdv A up s H vs Q E hr h => ?_)
  · obtain ⟨a, zs, rfl, _⟩ := h
    rfl
  · obtain ⟨a, zs, rfl, ha, l1, l2, hn, hd, k⟩ := h
    refine ⟨_, (pss_cons (ps_if (PW.pt (pw_or (pt_not (pt_val (pe_callB call_isi (by rfl) z_isinstance (by decide +kernel) (pa_cons (pv 0) (pa_cons (pe_bltn (v := .ty "tuple") (by rfl) z_tuple PyProof.Rows.boot_tuple rfl) pa_nil))))) (pw_or1 (pt_not (pt_chain op_le op_le pe_int (pe_callB (c_lenK (K := K) rfl) (by rfl) z_len (by decide +kernel) (pa_cons (pv 0) pa_nil)) (pe_glob (v := .int 3) rfl c_MOST_COLUMNS ⟨_, rfl⟩)))))) (pss_one (ps_ret pe_bl)) pss_nil)
        (pss_one (ps_ret (pe_and (pe_callB (cr_all rfl) (by rfl) z_all (by decide +kernel) (pa_cons (pe_lc (own := [("column", 1)]) (g := (gName 1)) (tt := tYes) (te := (tCall _ [] E0 (tCons (tVar 1) tNil))) (by rfl) nd (pi_tup (pv 0)) (blkOk_by (own := [("column", 1)]) (N := ["thing", "column"]) (sc := defScope s__are_columns) (by decide +kernel)) (fun _ _ _ _ _ => by exact (pg_name (i := 1) nd rfl (Or.inl rfl))) (fun _ _ _ _ _ => by exact pts_nil) (fun _ _ _ _ _ => by exact (pe_cf C_is_name (hr.mono (by decide)) (pa_cons (pv 1) pa_nil)))) pa_nil)) (pe_one (pe_cmpR op_eq (pe_callB call_lenK (by rfl) z_len (by decide +kernel) (pa_cons (pe_callTy (call_setS rfl) (by rfl) z_set (by decide +kernel) (pa_cons (pv 0) pa_nil)) pa_nil)) (pe_callB (c_lenK (K := K) rfl) (by rfl) z_len (by decide +kernel) (pa_cons (pv 0) pa_nil)) (nomark _))))))), ?_⟩
    walk_at "rr"
    refine isi_t (.base (.tup ha)) (b := true) (by decide +kernel) ?_
    walk_at "rr"
    refine k_sure (by rw [List.length_map]; omega) ?_
    walk_at "rr"
    refine k_sureN (by rw [List.length_map]; omega) ?_
    walk_at "rr"
    walk_at "rr"
    refine ⟨_, rfl, ⟨_, SqT.of ha⟩, fun D hD => ?_⟩
    refine lc_same (walk_tup (xs := zs.map V.str)) (fun _ => .bl true) (fun _ => true) (by rw [List.length_map]; omega) hD (fun H2 s2 => SqT.of (s2 _ _ ha)) (fun k x H2 H3 hk s2 y Q1 R1 q1 _ => ?_) fun H2 s2 hD1 => ?_
    · obtain ⟨rfl, y⟩ := y
      have e : (zs.map V.str)[k]? = some x := y
      rw [List.getElem?_map] at e
      obtain ⟨z, hz, rfl⟩ := Option.map_eq_some_iff.mp e
      walk_at "rr"
      refine ⟨rfl, k_yes ?_⟩
      walk_at "rr"
      exact ⟨z, rfl, hn z (List.mem_of_getElem? hz), fun H4 s4 => q1 rfl _ s4⟩
    · rw [range_all] at hD1
      walk_at "rr"
      refine ⟨D, (List.range (zs.map V.str).length).map fun _ => true, rfl, SqL.of (by rw [hD1, List.map_map]; rfl), ?_⟩
      rw [all_true]
      walk_at "rr"
      refine ⟨a, zs, rfl, .inr (SqT.of (s2 _ _ ha)), by omega, fun p c hp hc => ?_⟩
      walk_at "rr"
      refine ⟨p, _, _, rfl, upd_same, ?_⟩
      walk_at "rr"
      obtain rfl := hc.2.mpr hd
      rw [decide_eq_true (by rw [List.length_map])]
      exact k _ (s2.trans (Same.upd hp))
def spSome : Sp := fun vs H Q _ => ∃ (a c : Addr) (zs cs : List Str), vs = [.ref a, .ref c] ∧ H a = some (.tup (zs.map V.str)) ∧ H c = some (.tup (cs.map V.str)) ∧ zs.length ≤ 100 ∧ (∀ z ∈ zs, z ∈ cs) ∧ zs.Pairwise sLt ∧ ∀ H', Same H H' → Q (.bl true) H'
theorem ok_some {f : Addr} {fd : FuncData} (F : Fun K "_are_some" "_are_some" s__are_some f fd) (C_is_ascending : CalF P w K mg base "is_ascending" 1 ["things"] spAsc)
    (z_isinstance : mg "isinstance" = none) (z_tuple : mg "tuple" = none) (z_all : mg "all" = none) :
    FnOk P w K mg base CX0 2 f fd ["thing", "columns"] spSome := by
  have nd := sc__are_some.nd
  refine F.ok sc__are_some (fun vs H Q E h => ?_) (fun cdv A up s H vs Q E hr h => ?_)
  · obtain ⟨a, c, zs, cs, rfl, _⟩ := h
    rfl
  · obtain ⟨a, c, zs, cs, rfl, ha, hc, hl, hi, hp, k⟩ := h
    refine ⟨_, (pss_one (ps_ret (pe_and (pe_callB call_isi (by rfl) z_isinstance (by decide +kernel) (pa_cons (pv 0) (pa_cons (pe_bltn (v := .ty "tuple") (by rfl) z_tuple PyProof.Rows.boot_tuple rfl) pa_nil))) (pe_and (pe_callB (cr_all rfl) (by rfl) z_all (by decide +kernel) (pa_cons (pe_lc (own := [("column", 2)]) (g := (gName 2)) (tt := tYes) (te := (tOp _ (tVar 2) (tVar 1))) (by rfl) nd (pi_tup (pv 0)) (blkOk_by (own := [("column", 2)]) (N := ["thing", "columns", "column"]) (sc := defScope s__are_some) (by decide +kernel)) (fun _ _ _ _ _ => by exact (pg_name (i := 2) nd rfl (Or.inl rfl))) (fun _ _ _ _ _ => by exact pts_nil) (fun _ _ _ _ _ => by exact (pe_cmpR (op_inK (K := K) rfl) (pv 2) (pv 1) (by rfl)))) pa_nil)) (pe_one (pe_cf C_is_ascending (hr.mono (by decide)) (pa_cons (pv 0) pa_nil))))))), ?_⟩
    walk_at "rr"
    refine isi_t (.base (.tup ha)) (b := true) (by decide +kernel) ?_
    walk_at "rr"
    walk_at "rr"
    walk_at "rr"
    refine ⟨_, rfl, ⟨_, SqT.of ha⟩, fun D hD => ?_⟩
    refine lc_same (walk_tup (xs := zs.map V.str)) (fun _ => .bl true) (fun _ => true) (by rw [List.length_map]; omega) hD (fun H2 s2 => SqT.of (s2 _ _ ha)) (fun k x H2 H3 hk s2 y Q1 R1 q1 _ => ?_) fun H2 s2 hD1 => ?_
    · obtain ⟨rfl, y⟩ := y
      have e : (zs.map V.str)[k]? = some x := y
      rw [List.getElem?_map] at e
      obtain ⟨z, hz, rfl⟩ := Option.map_eq_some_iff.mp e
      walk_at "rr"
      refine ⟨rfl, k_yes ?_⟩
      walk_at "rr"
      refine ⟨_, _, rfl, .inr (SqT.of (s2 _ _ hc)), rfl, flat_strs _, ?_⟩
      rw [if_neg (by decide), inV_str (hi z (List.mem_of_getElem? hz))]
      exact q1 rfl _ (Same.refl _)
    · rw [range_all] at hD1
      walk_at "rr"
      refine ⟨D, (List.range (zs.map V.str).length).map fun _ => true, rfl, SqL.of (by rw [hD1, List.map_map]; rfl), ?_⟩
      rw [all_true]
      walk_at "rr"
      exact ⟨a, zs, rfl, s2 _ _ ha, hl, hp, fun H3 s3 => k _ (s2.trans s3)⟩
/-- a table -/
structure T where
  nm : Str
  cs : List Str
  is : List Str
  ks : List Str
structure T.Ok (t : T) : Prop where
  nm : isNameB t.nm = true
  c1 : 1 ≤ t.cs.length
  c3 : t.cs.length ≤ 3
  cn : ∀ z ∈ t.cs, isNameB z = true
  cd : t.cs.Nodup
  ii : ∀ z ∈ t.is, z ∈ t.cs
  ia : t.is.Pairwise sLt
  ki : ∀ z ∈ t.ks, z ∈ t.cs
  ka : t.ks.Pairwise sLt
def TAt (H : Hp) (a : Addr) (t : T) : Prop := ∃ c i k : Addr, H a = some (.tup [.str t.nm, .ref c, .ref i, .ref k]) ∧ H c = some (.tup (t.cs.map V.str)) ∧ H i = some (.tup (t.is.map V.str)) ∧ H k = some (.tup (t.ks.map V.str))
theorem TAt.same {H H' : Hp} {a : Addr} {t : T} (h : TAt H a t) (s : Same H H') : TAt H' a t := by
  obtain ⟨c, i, k, h1, h2, h3, h4⟩ := h
  exact ⟨c, i, k, s _ _ h1, s _ _ h2, s _ _ h3, s _ _ h4⟩
theorem asc_nodup {zs : List Str} (h : zs.Pairwise sLt) : zs.Nodup := h.imp fun {a b} l e => by
  subst e
  exact absurd l (List.lt_irrefl _)
theorem some_len {zs cs : List Str} (h : zs.Pairwise sLt) (i : ∀ z ∈ zs, z ∈ cs) : zs.length ≤ cs.length := nodup_len (asc_nodup h) i
def spTable : Sp := fun vs H Q _ => ∃ (a : Addr) (t : T), vs = [.ref a] ∧ TAt H a t ∧ t.Ok ∧ ∀ H', Same H H' → Q (.bl true) H'
theorem ok_table {f : Addr} {fd : FuncData} (F : Fun K "is_table" "is_table" s_is_table f fd) (C_is_name : CalF P w K mg base "is_name" 1 ["thing"] spName) (C_is_tuple : CalF P w K mg base "is_tuple" 1 ["thing", "size"] spTuple)
    (C__are_columns : CalF P w K mg base "_are_columns" 2 ["thing"] spCols) (C__are_some : CalF P w K mg base "_are_some" 2 ["thing", "columns"] spSome) :
    FnOk P w K mg base CX0 3 f fd ["thing"] spTable := by
  have nd := sc_is_table.nd
  refine F.ok sc_is_table (fun vs H Q E h => ?_) (fun cdv A up s H vs Q E hr h => ?_)
  · obtain ⟨a, t, rfl, _⟩ := h
    rfl
  · obtain ⟨a, t, rfl, ht, ok, k⟩ := h
    obtain ⟨c, i, u, h1, h2, h3, h4⟩ := ht
    refine ⟨_, (pss_cons (ps_if (pt_not (pt_val (pe_cf C_is_tuple (hr.mono (by decide)) (pa_cons (pv 0) (pa_cons pe_int pa_nil))))) (pss_one (ps_ret pe_bl)) pss_nil)
        (pss_cons (ps_asg (pv 0) (pg_tup rfl (pgs_cons (pg_name (i := 1) nd rfl (Or.inl rfl)) (pgs_cons (pg_name (i := 2) nd rfl (Or.inl rfl)) (pgs_cons (pg_name (i := 3) nd rfl (Or.inl rfl)) (pgs_cons (pg_name (i := 4) nd rfl (Or.inl rfl)) pgs_nil))))))
        (pss_one (ps_ret (pe_and (pe_cf C_is_name (hr.mono (by decide)) (pa_cons (pv 1) pa_nil)) (pe_and (pe_cf C__are_columns (hr.mono (by decide)) (pa_cons (pv 2) pa_nil)) (pe_and (pe_cf C__are_some (hr.mono (by decide)) (pa_cons (pv 3) (pa_cons (pv 2) pa_nil))) (pe_one (pe_cf C__are_some (hr.mono (by decide)) (pa_cons (pv 4) (pa_cons (pv 2) pa_nil))))))))))), ?_⟩
    walk_at "rr"
    refine ⟨a, _, rfl, h1, ?_⟩
    walk_at "rr"
    refine k_gTup (SqT.of h1) rfl ?_
    walk_at "rr"
    refine ⟨t.nm, rfl, ok.nm, fun H1 s1 => ?_⟩
    walk_at "rr"
    refine ⟨c, t.cs, rfl, s1 _ _ h2, ok.c1, ok.c3, ok.cn, ok.cd, fun H2 s2 => ?_⟩
    walk_at "rr"
    have q := some_len ok.ia ok.ii
    have q2 := some_len ok.ka ok.ki
    have := ok.c3
    refine ⟨i, c, t.is, t.cs, rfl, s2 _ _ (s1 _ _ h3), s2 _ _ (s1 _ _ h2), by omega, ok.ii, ok.ia, fun H3 s3 => ?_⟩
    walk_at "rr"
    refine ⟨u, c, t.ks, t.cs, rfl, s3 _ _ (s2 _ _ (s1 _ _ h4)), s3 _ _ (s2 _ _ (s1 _ _ h2)), by omega, ok.ki, ok.ka, fun H4 s4 => ?_⟩
    exact k _ (((s1.trans s2).trans s3).trans s4)
end
end K11

set_option Elab.async false
set_option maxRecDepth 100000
set_option maxHeartbeats 4000000
set_option linter.unusedVariables false
set_option linter.unusedSimpArgs false
namespace K11
open PySem PySem.Spec PyProof.Rows L2 Own
-- steps
local macro_rules | `(tactic| walk_at "lk") => `(tactic| first
  | assumption | exact upd_same
  | ((with_reducible refine' lk_new ?e (by assumption)); (case e => walk_at "lk"))
  | ((with_reducible refine' lk_ext (by assumption) ?e); (case e => walk_at "lk"))
  | ((with_reducible refine' lk_same (by assumption) ?e); (case e => walk_at "lk")))
local macro_rules | `(tactic| walk_at "sq") => `(tactic| first | assumption | exact SqL.of (by walk_at "lk") | exact SqT.of (by walk_at "lk"))
local macro_rules | `(tactic| walk_at "r1") => `(tactic| first
  | with_reducible refine k_seq ?_ | with_reducible refine k_asg ?_ | with_reducible refine k_ret ?_ | with_reducible refine k_drop ?_ | with_reducible refine k_next ?_ | with_reducible refine k_ifS ?_
  | ((with_reducible refine' k_var ?e ?_); (case e => exact rfl)) | with_reducible refine k_c ?_ | with_reducible refine k_op ?_ | with_reducible refine k_un ?_ | with_reducible refine k_test ?_ | with_reducible refine k_B ?_
  | with_reducible refine k_and ?_ | with_reducible refine k_or ?_ | with_reducible refine k_not ?_ | with_reducible refine k_andV ?_ | with_reducible refine k_orV ?_ | with_reducible refine k_notV ?_ | with_reducible refine k_if ?_
  | with_reducible refine k_nil ?_ | with_reducible refine k_cons ?_ | with_reducible refine k_tup ?_ | with_reducible refine k_lst ?_ | with_reducible refine k_call ?_ | with_reducible refine k_cb ?_ | with_reducible refine k_ck ?_
  | with_reducible refine k_par ?_ | with_reducible refine k_par1 ?_ | with_reducible refine k_tr ?_ | with_reducible refine k_rI0 ?_ | with_reducible refine k_rU ?_
  | with_reducible refine k_gN ?_ | with_reducible refine k_gS ?_ | with_reducible refine k_gNil ?_ | with_reducible refine k_gCons ?_ | with_reducible refine k_bm0 ?_ | with_reducible refine k_bm ?_
  | with_reducible refine k_for ?_ | with_reducible refine k_iL ?_ | with_reducible refine k_iT ?_ | with_reducible refine k_iR1 ?_ | ((with_reducible refine k_iR1i ?e ?_); (case e => first | decide | exact ⟨by omega, by omega⟩))
  | with_reducible refine k_max ?_ | with_reducible refine k_isB ?_ | with_reducible refine k_sl ?_ | with_reducible refine k_noP ?_ | with_reducible refine k_part ?_ | with_reducible refine k_partI ?_ | with_reducible refine k_revL ?_
  | ((with_reducible refine' k_ixqT ?e ?f ?_); (case e => walk_at "sq"); (case f => first | exact rfl | exact atI_head))
  | ((with_reducible refine' k_ixqL ?e ?f ?_); (case e => walk_at "sq"); (case f => first | exact rfl | exact atI_head))
  | ((with_reducible refine' k_lenL ?e ?_); (case e => walk_at "sq"))
  | ((with_reducible refine' k_lenT ?e ?_); (case e => walk_at "sq"))
  | ((with_reducible refine' k_ixL ?e ?f ?_); (case e => walk_at "sq"); (case f => first | exact rfl | exact atI_head))
  | ((with_reducible refine' k_ixT ?e ?f ?_); (case e => walk_at "sq"); (case f => first | exact rfl | exact atI_head))
  | ((with_reducible refine k_eq ?e ?_); (case e => exact rfl)) | ((with_reducible refine k_ne ?e ?_); (case e => exact rfl))
  | ((with_reducible refine k_rI ?e ?_); (case e => first | assumption | omega | decide | exact ⟨by omega, by omega⟩ | exact .inl ⟨by omega, by omega⟩ | exact .inr ⟨by omega, by omega⟩)))
local macro_rules | `(tactic| walk_at "rd") => `(tactic| repeat walk_at "r1")
local macro_rules | `(tactic| walk_at "r2") => `(tactic| first
  | walk_at "r1"
  | with_reducible refine k_ifTt ?_ | with_reducible refine k_ifFf ?_ | with_reducible refine k_ifNt ?_ | with_reducible refine k_ifNf ?_
  | with_reducible refine k_makeR ?_ | with_reducible refine k_tJ ?_ | with_reducible refine k_tJc ?_ | with_reducible refine k_tJn ?_ | with_reducible refine k_fmt ?_ | with_reducible refine k_lc ?_ | with_reducible refine k_din ?_ | with_reducible refine k_fld ?_ | with_reducible refine k_dget ?_
  | with_reducible refine k_dput ?_
  | with_reducible refine k_isNv ?_
  | with_reducible refine k_notNv ?_
  | with_reducible refine k_str ?_
  | with_reducible refine k_enumT ?_
  | with_reducible refine k_zipA ?_
  | with_reducible refine k_chain ?_
  | ((with_reducible refine' k_dgS ?e dkv_cells ?_); (case e => walk_at "lk"))
  | ((with_reducible refine' k_dgS ?e dkv_mixed ?_); (case e => walk_at "lk"))
  | ((with_reducible refine' k_dgS ?e dkv_turn ?_); (case e => walk_at "lk")))
local macro_rules | `(tactic| walk_at "rr") => `(tactic| repeat walk_at "r2")
-- steps end
theorem ltc : ∀ a b : List Nat, ltCps a b = decide (a < b)
  | [], [] => by simp [ltCps]
  | [], b :: bs => by simp [ltCps]
  | a :: as, [] => by simp [ltCps]
  | a :: as, b :: bs => by
    have ih := ltc as bs
    simp only [ltCps, ih]
    by_cases h : a < b
    · simp [h, List.cons_lt_cons_iff]
    · by_cases e : a = b
      · subst e
        simp [List.cons_lt_cons_iff]
      · simp [h, e, List.cons_lt_cons_iff]
theorem ris : ∀ (r : List Str) (x : Str), risingS x r = true → (x :: r).Pairwise fun a b => ¬ b.cps.toList < a.cps.toList := by
  intro r
  induction r with
  | nil => intro x _; exact List.pairwise_singleton _ _
  | cons y r ih =>
    intro x h
    unfold risingS at h
    rw [Bool.and_eq_true, Bool.not_eq_true'] at h
    have h1 : ¬ y.cps.toList < x.cps.toList := of_decide_eq_false ((ltc _ _).symm.trans h.1)
    have h2 := ih y h.2
    refine List.pairwise_cons.mpr ⟨fun z hz => ?_, h2⟩
    rcases List.mem_cons.mp hz with rfl | hz
    · exact h1
    · have h3 := (List.pairwise_cons.mp h2).1 z hz
      rw [List.not_lt] at *
      exact List.le_trans h1 h3
theorem ris2 {ys : List Str} (h : sortedS ys = true) (nd : ys.Nodup) : ys.Pairwise sLt := by
  have h1 : ys.Pairwise fun a b => ¬ b.cps.toList < a.cps.toList := by
    match ys, h with
    | [], _ => exact List.Pairwise.nil
    | y :: r, h => exact ris r y h
  refine (h1.and nd).imp fun {a b} z => ?_
  rcases Decidable.em (a.cps.toList < b.cps.toList) with q | q
  · exact q
  · rw [List.not_lt] at q
    have z1 := z.1
    rw [List.not_lt] at z1
    have e := List.le_antisymm z1 q
    refine absurd ?_ z.2
    obtain ⟨a⟩ := a
    obtain ⟨b⟩ := b
    exact congrArg Str.mk (Array.toList_inj.mp e)

/-! ### a schema -/
theorem nt : ¬ (("_named" : Str) = "_tables") := by decide +kernel
def flds (d t : Addr) : List (Str × V) := putF "_tables" (.ref t) (putF "_named" (.ref d) [])
theorem flds_tables (d t : Addr) : (flds d t).lookup ("_tables" : Str) = some (.ref t) := by
  unfold flds
  rw [lookup_putF, if_pos rfl]
theorem flds_named (d t : Addr) : (flds d t).lookup ("_named" : Str) = some (.ref d) := by
  unfold flds
  rw [lookup_putF, if_neg nt, lookup_putF, if_pos rfl]
theorem flds_no (d t : Addr) {m : Str} (h1 : ¬ m = "_tables") (h2 : ¬ m = "_named") : (flds d t).lookup m = none := by
  unfold flds
  rw [lookup_putF, if_neg h1, lookup_putF, if_neg h2]
  rfl
/-- a table and where it lies -/
abbrev AT := Addr × T
def kvsOf (ts : List AT) : List (Key × V) := ts.map fun x => ((Sum.inr x.2.nm : Key), V.ref x.1)
def refsOf (ts : List AT) : List V := ts.map fun x => V.ref x.1
def namesOf (ts : List AT) : List Str := ts.map fun x => x.2.nm
theorem kvs_has {ts : List AT} {n : Str} {o : Option V} (h : valV (kvsOf ts) (Sum.inr n) = o) : o.isSome = decide (n ∈ namesOf ts) := by
  subst h
  induction ts with
  | nil => rfl
  | cons x ts ih =>
    by_cases e : x.2.nm = n
    · have h1 : valV (kvsOf (x :: ts)) (Sum.inr n) = some (V.ref x.1) := by
        show valV ((Sum.inr x.2.nm, V.ref x.1) :: kvsOf ts) (Sum.inr n) = _
        rw [e]
        exact kv_hit
      rw [h1]
      exact (decide_eq_true (by rw [← e]; exact List.mem_cons_self)).symm
    · have h1 : valV (kvsOf (x :: ts)) (Sum.inr n) = valV (kvsOf ts) (Sum.inr n) := kv_miss (sne e)
      rw [h1, ih]
      have : n ∈ namesOf (x :: ts) ↔ n ∈ namesOf ts := by
        show n ∈ x.2.nm :: namesOf ts ↔ _
        rw [List.mem_cons]
        exact ⟨fun z => z.resolve_left fun q => e q.symm, .inr⟩
      exact (decide_eq_decide.mpr this).symm
theorem kvs_get {ts : List AT} (nd : (namesOf ts).Nodup) {x : AT} (h : x ∈ ts) : valV (kvsOf ts) (Sum.inr x.2.nm) = some (V.ref x.1) := by
  induction ts with
  | nil => cases h
  | cons y ts ih =>
    have nd2 := List.nodup_cons.mp (show (y.2.nm :: namesOf ts).Nodup from nd)
    rcases List.mem_cons.mp h with rfl | h
    · exact kv_hit
    · have ne : ¬ y.2.nm = x.2.nm := fun e => nd2.1 (e ▸ List.mem_map.mpr ⟨x, h, rfl⟩)
      exact (kv_miss (sne ne)).trans (ih nd2.2 h)
theorem kvs_put {ts : List AT} {x : AT} (n : ¬ x.2.nm ∈ namesOf ts) : putK (kvsOf ts) (Sum.inr x.2.nm) (V.ref x.1) = kvsOf (ts ++ [x]) := by
  have h : valV (kvsOf ts) (Sum.inr x.2.nm) = none := by
    have := kvs_has (ts := ts) (n := x.2.nm) rfl
    rw [decide_eq_false n] at this
    exact Option.not_isSome_iff_eq_none.mp (by rw [this]; decide)
  rw [putK_new _ h]
  unfold kvsOf
  rw [List.map_append]
  rfl
theorem nd_take {ts : List AT} (nd : (namesOf ts).Nodup) {i : Nat} {x : AT} (h : ts[i]? = some x) : ¬ x.2.nm ∈ namesOf (ts.take i) := fun z => by
  have e : namesOf ts = namesOf (ts.take i) ++ namesOf (ts.drop i) := by
    unfold namesOf
    rw [← List.map_append, List.take_append_drop]
  rw [e] at nd
  have i2 : x.2.nm ∈ namesOf (ts.drop i) := List.mem_map.mpr ⟨x, List.mem_of_getElem? (i := 0) (by rw [List.getElem?_drop]; exact h), rfl⟩
  exact (List.nodup_append.mp nd).2.2 _ z _ i2 rfl
structure SchAt (C : Addr) (H : Hp) (p : Addr) (ts zs : List AT) : Prop where
  perm : zs.Perm ts
  asc : (namesOf zs).Pairwise sLt
  ok : ∀ x ∈ ts, TAt H x.1 x.2 ∧ x.2.Ok
  nd : (namesOf ts).Nodup
  len : ts.length ≤ 4
  ex : ∃ dx d t, H p = some (.ins C dx (flds d t)) ∧ H d = some (.dK (kvsOf ts)) ∧ H t = some (.tup (refsOf zs))
structure Txt (K : PySem.W.Frag) (C : Addr) : Prop where
  cl : Cls K C
  nN : NoAttr K C "_named"
  nT : NoAttr K C "_tables"
section
variable {P : Program} {w : World} {K : PySem.W.Frag} {mg : Str → Option Value} {base : Heap} {C : Addr}
abbrev s_Schema___init__ : Stmt := inClass (top 60) 0
theorem sc_Schema___init__ : FnScope ["self", "tables", "named", "at", "table", "name"] ["self", "tables"] (defScope s_Schema___init__) :=
  ⟨rfl, rfl, rfl, by decide +kernel, rfl, by decide +kernel, by decide +kernel⟩
def spInit (C : Addr) : Sp := fun vs H Q _ => ∃ (p dx u : Addr) (ts : List AT), vs = [.ref p, .ref u] ∧ H p = some (.ins C dx []) ∧ H u = some (.tup (refsOf ts)) ∧ (∀ x ∈ ts, TAt H x.1 x.2 ∧ x.2.Ok) ∧ (namesOf ts).Nodup ∧ ts.length ≤ 4 ∧
  ∀ H' zs, SchAt C H' p ts zs → (∀ a o, a ≠ p → H a = some o → H' a = some o) → Q .non H'
theorem ok_init {f : Addr} {fd : FuncData} (F : Fun K "__init__" "Schema.__init__" s_Schema___init__ f fd) (T : Txt K C) (C_is_table : CalF P w K mg base "is_table" 3 ["thing"] spTable)
    (z_enumerate : mg "enumerate" = none) (z_sorted : mg "sorted" = none) (z_tuple : mg "tuple" = none)
    (hb : ∀ (kV doc pm : Value) (an : Option Addr) (cdv ct : Value) (us rest : List Value), us.length = 1 →
      bindArgs (PySem.W.fnOf "__init__" "Schema.__init__" (defArgs s_Schema___init__) (defBody s_Schema___init__) (defScope s_Schema___init__) .none kV doc pm an cdv ct) ⟨us ++ rest, []⟩ = (newTuple rest >>= fun t => pure ((["self"] : List Str).zip us ++ [(("tables" : Str), t)]))) :
    FnR P w K mg base CX0 4 f (fun vs H Q E => ∃ ws rest, vs = ws ++ rest ∧ ws.length = 1 ∧ rest.length ≤ sizeLine ∧ ∀ p, H p = Option.none → spInit C (ws ++ [V.ref p]) (upd H p (.tup rest)) Q E) := by
  obtain ⟨oc, od, kV, doc, pm, an, cdv, ct, osl, rfl, lk, hcd⟩ := F.ex
  refine StX.fn_star (ps := ["self"]) (pv := "tables") lk hcd sc_Schema___init__ StX.cxUp_none (fun us rest hl => hb kV doc pm an cdv ct us rest hl) (fun A up s H vs Q E hr h => ?_)
  obtain ⟨p, dx, u, ts, rfl, hp, hU, ht, hn, hl, k⟩ := h
  have nd := sc_Schema___init__.nd
  have hu := hu_of hr
  refine ⟨_, PSs.nox (pss_cons (ps_set (i := 2) nd rfl (Or.inr rfl) pe_dnewK)
        (pss_cons (ps_for PassesOwn.never rfl (pi_enumT (by rfl) z_enumerate (pa_cons (pv 1) pa_nil)) (pg_tup rfl (pgs_cons (pg_name (i := 3) nd rfl (Or.inl rfl)) (pgs_cons (pg_name (i := 4) nd rfl (Or.inl rfl)) pgs_nil))) (pss_cons (ps_if (PW.pt (pw_or (pt_not (pt_val (pe_cf C_is_table (hr.mono (by decide)) (pa_cons (pv 4) pa_nil)))) (pw_or1 (pt_cmp (pc_din hu (pe_ix ix_tup (pv 4) pe_int (fun _ _ => rfl)) (pv 2)))))) (pss_one ps_nope) pss_nil)
        (pss_one (ps_dput hu (pv 2) (pe_ix ix_tup (pv 4) pe_int (fun _ _ => rfl)) (pv 4) rfl))))
        (pss_cons (ps_fld (pv 0) (pv 2) rfl)
        (pss_one (ps_fld (pv 0) (pe_callTy call_tuple_of (by rfl) z_tuple (by decide +kernel) (pa_cons (pe_lc (own := [("name", 5)]) (g := (gName 5)) (tt := tYes) (te := (tDGet (tVar 2) (tVar 5))) (by rfl) nd (pi_list (pe_callB (L2.call_sortedD rfl) (by rfl) z_sorted (by decide +kernel) (pa_cons (pv 2) pa_nil))) (blkOk_by (own := [("name", 5)]) (N := ["self", "tables", "named", "at", "table", "name"]) (sc := defScope s_Schema___init__) (by decide +kernel)) (fun _ _ _ _ _ => by exact (pg_name (i := 5) nd rfl (Or.inl rfl))) (fun _ _ _ _ _ => by exact pts_nil) (fun _ _ _ _ _ => by exact (pe_dget hu (pv 2) (pv 5) (fun _ _ => rfl)))) pa_nil)) rfl))))), ?_⟩
  walk_at "rr"
  refine k_dnewK fun d hd => ?_
  walk_at "rr"
  let Pv : Nat → L2.St → Hp → Prop := fun i σ H' => ∃ o1 o2, σ = [some (.ref p), some (.ref u), some (.ref d), o1, o2, none] ∧ Same H H' ∧ H' d = some (.dK (kvsOf (ts.take i)))
  have lr : (refsOf ts).length = ts.length := List.length_map ..
  refine ⟨u, refsOf ts, rfl, SqT.of (Same.upd hd _ _ hU), for_it (walk_enumT (xs := refsOf ts)) Pv ⟨none, none, rfl, Same.upd hd, upd_same⟩ (fun i σ H' _ h => ?_) (fun i x σ H' H'' hi h y => ?_) (fun σ H' h => ?_)⟩
  · obtain ⟨_, _, _, s1, _⟩ := h
    exact SqT.of (s1 _ _ hU)
  · obtain ⟨o1, o2, rfl, s1, hk⟩ := h
    obtain ⟨t1, x1, x2, rfl, ht1, rfl, e1, e2⟩ := y
    have e1 : V.int i = x1 := Option.some.inj e1
    have e2 : (refsOf ts)[i]? = some x2 := e2
    unfold refsOf at e2
    rw [List.getElem?_map] at e2
    obtain ⟨x, hx, rfl⟩ := Option.map_eq_some_iff.mp e2
    subst e1
    refine k_gTup (SqT.of upd_same) rfl ?_
    walk_at "rr"
    obtain ⟨tx, ok⟩ := ht x (List.mem_of_getElem? hx)
    refine ⟨x.1, x.2, rfl, (tx.same s1).same (Same.upd ht1), ok, fun H2 s2 => ?_⟩
    walk_at "rr"
    refine k_ixT (SqT.of (s2 _ _ (Same.upd ht1 _ _ (s1 _ _ tx.choose_spec.choose_spec.choose_spec.1)))) rfl ?_
    walk_at "rr"
    have hk2 := s2 _ _ (Same.upd ht1 _ _ hk)
    have fresh := nd_take hn hx
    refine ⟨d, _, rfl, DGet.k (k := Sum.inr x.2.nm) hk2, _, rfl, ?_⟩
    rw [kvs_has rfl, decide_eq_false fresh]
    walk_at "rr"
    have hi2 : i < ts.length := (List.getElem?_eq_some_iff.mp hx).1
    refine k_ixT (SqT.of (s2 _ _ (Same.upd ht1 _ _ (s1 _ _ tx.choose_spec.choose_spec.choose_spec.1)))) rfl ?_
    refine k_dpS hk2 (by unfold kvsOf; rw [List.length_map, List.length_take]; omega) ?_
    rw [kvs_put fresh]
    refine ⟨_, _, rfl, ?_, ?_⟩
    · exact same_off ((s1.trans (Same.upd ht1)).trans s2) hd
    · rw [upd_same, List.take_add_one, hx]
      rfl
  · obtain ⟨o1, o2, rfl, s1, hk⟩ := h
    rw [lr, List.take_length] at hk
    walk_at "rr"
    have hp1 := s1 _ _ hp
    have npd : p ≠ d := ne_of_none hp hd
    refine ⟨p, C, dx, [], rfl, hp1, T.cl, T.nN, by decide, ?_⟩
    walk_at "rr"
    walk_at "rr"
    let H3 := upd H' p (.ins C dx (putF "_named" (.ref d) []))
    have hk3 : H3 d = some (.dK (kvsOf ts)) := (upd_ne npd.symm).trans hk
    refine ⟨d, kvsOf ts, namesOf ts, rfl, .inl hk3, by unfold kvsOf namesOf; rw [List.map_map, List.map_map]; rfl, by unfold namesOf; rw [List.length_map]; omega, fun ys q hp2 hs hq => ?_⟩
    obtain ⟨zs, pz, rfl⟩ := perm_map hp2 ts rfl
    have lz := pz.length_eq
    refine ⟨_, rfl, ⟨_, SqL.of upd_same⟩, fun D hD => ?_⟩
    refine lc_same (walk_list (xs := (zs.map fun x => x.2.nm).map V.str)) (fun i => match zs[i]? with | some x => .ref x.1 | none => .non) (fun _ => true) (by rw [List.length_map, List.length_map]; omega) hD (fun H5 s5 => SqL.of (s5 _ _ upd_same)) (fun k x H5 H6 hk5 s5 y Q1 R1 q1 _ => ?_) fun H5 s5 hD1 => ?_
    · obtain ⟨rfl, y⟩ := y
      have e : ((zs.map fun x => x.2.nm).map V.str)[k]? = some x := y
      rw [List.map_map, List.getElem?_map] at e
      obtain ⟨z, hz, rfl⟩ := Option.map_eq_some_iff.mp e
      rw [hz] at q1
      walk_at "rr"
      refine ⟨rfl, k_yes ?_⟩
      walk_at "rr"
      refine k_dgS (s5 _ _ (Same.upd hq _ _ hk3)) (kvs_get hn (pz.mem_iff.mp (List.mem_of_getElem? hz))) ?_
      exact q1 rfl _ (Same.refl _)
    · rw [range_all, List.length_map, List.length_map, range_get zs _ (fun x => V.ref x.1) (fun k x e => by rw [e])] at hD1
      walk_at "rr"
      refine ⟨D, refsOf zs, rfl, .inl ⟨SqL.of hD1, fun l hl2 => ?_⟩⟩
      walk_at "rr"
      have hp3 : H3 p = some (.ins C dx (putF "_named" (.ref d) [])) := upd_same
      have g1 : ∀ a o, a ≠ p → H a = some o → (upd H5 l (.tup (refsOf zs))) a = some o := fun a o na e => Same.upd hl2 _ _ (s5 _ _ (Same.upd hq _ _ ((upd_ne na).trans (s1 _ _ e))))
      have hp5 : (upd H5 l (.tup (refsOf zs))) p = some (.ins C dx (putF "_named" (.ref d) [])) := Same.upd hl2 _ _ (s5 _ _ (Same.upd hq _ _ hp3))
      have hd5 : (upd H5 l (.tup (refsOf zs))) d = some (.dK (kvsOf ts)) := Same.upd hl2 _ _ (s5 _ _ (Same.upd hq _ _ hk3))
      refine ⟨p, C, dx, _, rfl, hp5, T.cl, T.nT, (by show 1 < 1000; decide), ?_⟩
      have npl : p ≠ l := fun z => by
        rw [← z] at hl2
        have := s5 _ _ (Same.upd hq _ _ hp3)
        rw [this] at hl2
        cases hl2
      have hl5 : (upd H5 l (.tup (refsOf zs))) l = some (.tup (refsOf zs)) := upd_same
      generalize upd H5 l (.tup (refsOf zs)) = H6 at g1 hp5 hd5 hl5 ⊢
      have nat : ∀ {a : Addr} {o : HO}, H a = some o → (∀ C dx fs, o ≠ .ins C dx fs) → a ≠ p := fun e n z => by
        rw [z, hp] at e
        exact n _ _ _ (Option.some.inj e).symm
      refine k _ zs ⟨pz, ris2 hs (by
          have : (zs.map fun x => x.2.nm).Perm (namesOf ts) := pz.map _
          exact this.nodup_iff.mpr hn), fun x hx => ⟨?_, (ht x hx).2⟩, hn, hl, dx, d, l, upd_same, (upd_ne npd.symm).trans hd5, (upd_ne npl.symm).trans hl5⟩ fun a o na e => (upd_ne na).trans (g1 a o na e)
      obtain ⟨c, i, kk, h1, h2, h3, h4⟩ := (ht x hx).1
      have t : ∀ {a : Addr} {xs : List V}, H a = some (.tup xs) → (upd H6 p (.ins C dx (flds d l))) a = some (.tup xs) := fun {a xs} e => (upd_ne (nat e fun _ _ _ z => by cases z)).trans (g1 _ _ (nat e fun _ _ _ z => by cases z) e)
      exact ⟨c, i, kk, t h1, t h2, t h3, t h4⟩
end
end K11

set_option Elab.async false
set_option maxRecDepth 100000
set_option maxHeartbeats 4000000
set_option linter.unusedVariables false
namespace K11
open PySem PySem.Spec PyProof.Rows L2 Own
-- steps
local macro_rules | `(tactic| walk_at "lk") => `(tactic| first
  | assumption | exact upd_same
  | ((with_reducible refine' lk_new ?e (by assumption)); (case e => walk_at "lk"))
  | ((with_reducible refine' lk_ext (by assumption) ?e); (case e => walk_at "lk"))
  | ((with_reducible refine' lk_same (by assumption) ?e); (case e => walk_at "lk")))
local macro_rules | `(tactic| walk_at "sq") => `(tactic| first | assumption | exact SqL.of (by walk_at "lk") | exact SqT.of (by walk_at "lk"))
local macro_rules | `(tactic| walk_at "r1") => `(tactic| first
  | with_reducible refine k_seq ?_ | with_reducible refine k_asg ?_ | with_reducible refine k_ret ?_ | with_reducible refine k_drop ?_ | with_reducible refine k_next ?_ | with_reducible refine k_ifS ?_
  | ((with_reducible refine' k_var ?e ?_); (case e => exact rfl)) | with_reducible refine k_c ?_ | with_reducible refine k_op ?_ | with_reducible refine k_un ?_ | with_reducible refine k_test ?_ | with_reducible refine k_B ?_
  | with_reducible refine k_and ?_ | with_reducible refine k_or ?_ | with_reducible refine k_not ?_ | with_reducible refine k_andV ?_ | with_reducible refine k_orV ?_ | with_reducible refine k_notV ?_ | with_reducible refine k_if ?_
  | with_reducible refine k_nil ?_ | with_reducible refine k_cons ?_ | with_reducible refine k_tup ?_ | with_reducible refine k_lst ?_ | with_reducible refine k_call ?_ | with_reducible refine k_cb ?_ | with_reducible refine k_ck ?_
  | with_reducible refine k_par ?_ | with_reducible refine k_par1 ?_ | with_reducible refine k_tr ?_ | with_reducible refine k_rI0 ?_ | with_reducible refine k_rU ?_
  | with_reducible refine k_gN ?_ | with_reducible refine k_gS ?_ | with_reducible refine k_gNil ?_ | with_reducible refine k_gCons ?_ | with_reducible refine k_bm0 ?_ | with_reducible refine k_bm ?_
  | with_reducible refine k_for ?_ | with_reducible refine k_iL ?_ | with_reducible refine k_iT ?_ | with_reducible refine k_iR1 ?_ | ((with_reducible refine k_iR1i ?e ?_); (case e => first | decide | exact ⟨by omega, by omega⟩))
  | with_reducible refine k_max ?_ | with_reducible refine k_isB ?_ | with_reducible refine k_sl ?_ | with_reducible refine k_noP ?_ | with_reducible refine k_part ?_ | with_reducible refine k_partI ?_ | with_reducible refine k_revL ?_
  | ((with_reducible refine' k_ixqT ?e ?f ?_); (case e => walk_at "sq"); (case f => first | exact rfl | exact atI_head))
  | ((with_reducible refine' k_ixqL ?e ?f ?_); (case e => walk_at "sq"); (case f => first | exact rfl | exact atI_head))
  | ((with_reducible refine' k_lenL ?e ?_); (case e => walk_at "sq"))
  | ((with_reducible refine' k_lenT ?e ?_); (case e => walk_at "sq"))
  | ((with_reducible refine' k_ixL ?e ?f ?_); (case e => walk_at "sq"); (case f => first | exact rfl | exact atI_head))
  | ((with_reducible refine' k_ixT ?e ?f ?_); (case e => walk_at "sq"); (case f => first | exact rfl | exact atI_head))
  | ((with_reducible refine k_eq ?e ?_); (case e => exact rfl)) | ((with_reducible refine k_ne ?e ?_); (case e => exact rfl))
  | ((with_reducible refine k_rI ?e ?_); (case e => first | assumption | omega | decide | exact ⟨by omega, by omega⟩ | exact .inl ⟨by omega, by omega⟩ | exact .inr ⟨by omega, by omega⟩)))
local macro_rules | `(tactic| walk_at "rd") => `(tactic| repeat walk_at "r1")
local macro_rules | `(tactic| walk_at "r2") => `(tactic| first
  | walk_at "r1"
  | with_reducible refine k_ifTt ?_ | with_reducible refine k_ifFf ?_ | with_reducible refine k_ifNt ?_ | with_reducible refine k_ifNf ?_
  | with_reducible refine k_makeR ?_ | with_reducible refine k_tJ ?_ | with_reducible refine k_tJc ?_ | with_reducible refine k_tJn ?_ | with_reducible refine k_fmt ?_ | with_reducible refine k_lc ?_ | with_reducible refine k_din ?_ | with_reducible refine k_fld ?_ | with_reducible refine k_dget ?_
  | with_reducible refine k_dput ?_
  | with_reducible refine k_isNv ?_
  | with_reducible refine k_notNv ?_
  | with_reducible refine k_str ?_
  | with_reducible refine k_enumT ?_
  | with_reducible refine k_zipA ?_
  | with_reducible refine k_chain ?_
  | ((with_reducible refine' k_dgS ?e dkv_cells ?_); (case e => walk_at "lk"))
  | ((with_reducible refine' k_dgS ?e dkv_mixed ?_); (case e => walk_at "lk"))
  | ((with_reducible refine' k_dgS ?e dkv_turn ?_); (case e => walk_at "lk")))
local macro_rules | `(tactic| walk_at "rr") => `(tactic| repeat walk_at "r2")
-- steps end
/-! ### tables as data -/
instance : DecidableEq T := fun a b => by
  cases a
  cases b
  rw [T.mk.injEq]
  exact inferInstance
def strsD (zs : List Str) : PyData := .tuple (zs.map .str)
def T.data (t : T) : PyData := .tuple [.str t.nm, strsD t.cs, strsD t.is, strsD t.ks]
def tabsD (l : List T) : PyData := .tuple (l.map T.data)
theorem eqv_strs : ∀ zs ys : List Str, PyData.eqvAll (zs.map .str) (ys.map .str) = decide (zs = ys)
  | [], [] => by simp [PyData.eqvAll]
  | [], y :: ys => by simp [PyData.eqvAll]
  | z :: zs, [] => by simp [PyData.eqvAll]
  | z :: zs, y :: ys => by
    have ih := eqv_strs zs ys
    simp only [List.map_cons, PyData.eqvAll, ih, PyData.eqv]
    by_cases h : z = y <;> simp [h]
theorem eqv_strsD (zs ys : List Str) : PyData.eqv (strsD zs) (strsD ys) = decide (zs = ys) := by
  unfold strsD
  simp only [PyData.eqv]
  exact eqv_strs zs ys
theorem eqv_T (a b : T) : PyData.eqv a.data b.data = decide (a = b) := by
  obtain ⟨a1, a2, a3, a4⟩ := a
  obtain ⟨b1, b2, b3, b4⟩ := b
  unfold T.data
  simp only [PyData.eqv, PyData.eqvAll, eqv_strsD]
  by_cases h1 : a1 = b1 <;> by_cases h2 : a2 = b2 <;> by_cases h3 : a3 = b3 <;> by_cases h4 : a4 = b4 <;> simp [h1, h2, h3, h4]
theorem eqv_Ts : ∀ l m : List T, PyData.eqvAll (l.map T.data) (m.map T.data) = decide (l = m)
  | [], [] => by simp [PyData.eqvAll]
  | [], y :: ys => by simp [PyData.eqvAll]
  | z :: zs, [] => by simp [PyData.eqvAll]
  | z :: zs, y :: ys => by
    have ih := eqv_Ts zs ys
    simp only [List.map_cons, PyData.eqvAll, ih, eqv_T]
    by_cases h : z = y <;> simp [h]
theorem eqv_tabs (l m : List T) : PyData.eqv (tabsD l) (tabsD m) = decide (l = m) := by
  unfold tabsD
  simp only [PyData.eqv]
  exact eqv_Ts l m
theorem name_ok {z : Str} (h : isNameB z = true) : PyData.strOk z = true := by
  unfold PyData.strOk
  unfold isNameB at h
  rw [Bool.and_eq_true, Bool.and_eq_true] at h
  rw [← Array.all_toList]
  refine List.all_eq_true.mpr fun c hc => decide_eq_true ?_
  have := List.all_eq_true.mp h.2 c hc
  unfold isLet at this
  simp at this
  omega
theorem lay_strs : ∀ zs : List Str, (∀ z ∈ zs, isNameB z = true) → PyData.canLayAll0 (zs.map .str) = true
  | [], _ => by simp [PyData.canLayAll0]
  | z :: zs, h => by
    simp [PyData.canLayAll0, PyData.canLay0, lay_strs zs fun y hy => h y (List.mem_cons_of_mem _ hy)]
    exact name_ok (h z List.mem_cons_self)
theorem dep_strs : ∀ zs : List Str, PyData.depthAll (zs.map .str) ≤ 1
  | [] => by simp [PyData.depthAll]
  | z :: zs => by
    have := dep_strs zs
    simp [PyData.depthAll, PyData.depth]
    omega
theorem lay_T {t : T} (h : t.Ok) : t.data.canLay0 = true := by
  unfold T.data strsD
  simp [PyData.canLay0, PyData.canLayAll0, lay_strs t.cs h.cn, lay_strs t.is fun z hz => h.cn z (h.ii z hz), lay_strs t.ks fun z hz => h.cn z (h.ki z hz)]
  exact name_ok h.nm
theorem dep_T (t : T) : t.data.depth ≤ 4 := by
  have h1 := dep_strs t.cs
  have h2 := dep_strs t.is
  have h3 := dep_strs t.ks
  unfold T.data strsD
  simp [PyData.depth, PyData.depthAll]
  omega
theorem lay_Ts : ∀ l : List T, (∀ t ∈ l, t.Ok) → PyData.canLayAll0 (l.map T.data) = true
  | [], _ => by simp [PyData.canLayAll0]
  | z :: zs, h => by simp [PyData.canLayAll0, lay_T (h z List.mem_cons_self), lay_Ts zs fun y hy => h y (List.mem_cons_of_mem _ hy)]
theorem dep_Ts : ∀ l : List T, PyData.depthAll (l.map T.data) ≤ 4
  | [] => by simp [PyData.depthAll]
  | z :: zs => by
    have := dep_Ts zs
    have := dep_T z
    simp [PyData.depthAll]
    omega
theorem shaped_tabs {l : List T} (h : ∀ t ∈ l, t.Ok) : SeqAt.shaped (tabsD l) = true := by
  have := dep_Ts l
  unfold SeqAt.shaped tabsD
  simp [PyData.canLay0, lay_Ts l h, PyData.depth]
  omega
section
variable {K : PySem.W.Frag} {H : Hp}
theorem dpAll_strs : ∀ zs : List Str, DpAll K H (zs.map V.str) (zs.map .str)
  | [] => .nil
  | z :: zs => .cons (.str z) (dpAll_strs zs)
theorem TAt.dp {a : Addr} {t : T} (h : TAt H a t) : Dp K H (.ref a) t.data := by
  obtain ⟨c, i, k, h1, h2, h3, h4⟩ := h
  exact .tup (SqT.of h1) (.cons (.str _) (.cons (.tup (SqT.of h2) (dpAll_strs _)) (.cons (.tup (SqT.of h3) (dpAll_strs _)) (.cons (.tup (SqT.of h4) (dpAll_strs _)) .nil))))
theorem dpAll_T : ∀ {l : List AT}, (∀ x ∈ l, TAt H x.1 x.2) → DpAll K H (refsOf l) ((l.map (·.2)).map T.data)
  | [], _ => .nil
  | x :: l, h => .cons (h x List.mem_cons_self).dp (dpAll_T fun y hy => h y (List.mem_cons_of_mem _ hy))
theorem dp_tabs {a : Addr} {l : List AT} (ha : H a = some (.tup (refsOf l))) (h : ∀ x ∈ l, TAt H x.1 x.2) : Dp K H (.ref a) (tabsD (l.map (·.2))) := .tup (SqT.of ha) (dpAll_T h)
end
/-! ### what Schema tells -/
/-- no text -/
def Oth (C : Addr) (H : Hp) (y : V) : Prop := y = .non ∨ (∃ b, y = .bl b) ∨ (∃ i, y = .int i) ∨ (∃ p xs, y = .ref p ∧ H p = some (.lst xs)) ∨ (∃ p xs, y = .ref p ∧ H p = some (.tup xs)) ∨ ∃ p kvs, y = .ref p ∧ H p = some (.dK kvs)
theorem Oth.ty {C : Addr} {K : PySem.W.Frag} {H : Hp} {y : V} (h : Oth C H y) : ∃ A : String, TyX K H y (.type A) ∧ (A = "NoneType" ∨ A = "bool" ∨ A = "int" ∨ A = "list" ∨ A = "tuple" ∨ A = "dict") := by
  rcases h with rfl | ⟨b, rfl⟩ | ⟨i, rfl⟩ | ⟨p, xs, rfl, q⟩ | ⟨p, xs, rfl, q⟩ | ⟨p, kvs, rfl, q⟩
  · exact ⟨_, .base .non, .inl rfl⟩
  · exact ⟨_, .base (.bl b), .inr (.inl rfl)⟩
  · exact ⟨_, .base (.int i), .inr (.inr (.inl rfl))⟩
  · exact ⟨_, .base (.lst q), .inr (.inr (.inr (.inl rfl)))⟩
  · exact ⟨_, .base (.tup q), .inr (.inr (.inr (.inr (.inl rfl))))⟩
  · exact ⟨_, .base (.dK q), .inr (.inr (.inr (.inr (.inr rfl))))⟩
theorem Oth.same {C : Addr} {H H' : Hp} {y : V} (h : Oth C H y) (s : Same H H') : Oth C H' y := by
  rcases h with rfl | ⟨b, rfl⟩ | ⟨i, rfl⟩ | ⟨p, xs, rfl, q⟩ | ⟨p, xs, rfl, q⟩ | ⟨p, kvs, rfl, q⟩
  · exact .inl rfl
  · exact .inr (.inl ⟨b, rfl⟩)
  · exact .inr (.inr (.inl ⟨i, rfl⟩))
  · exact .inr (.inr (.inr (.inl ⟨p, xs, rfl, s _ _ q⟩)))
  · exact .inr (.inr (.inr (.inr (.inl ⟨p, xs, rfl, s _ _ q⟩))))
  · exact .inr (.inr (.inr (.inr (.inr ⟨p, kvs, rfl, s _ _ q⟩))))
theorem Oth.kind {C : Addr} {K : PySem.W.Frag} {H : Hp} {y : V} (h : Oth C H y) : Own.Kind K C H y := by
  rcases h with rfl | ⟨b, rfl⟩ | ⟨i, rfl⟩ | ⟨p, xs, rfl, q⟩ | ⟨p, xs, rfl, q⟩ | ⟨p, kvs, rfl, q⟩
  · exact .inl rfl
  · exact .inr (.inl ⟨b, rfl⟩)
  · exact .inr (.inr (.inl ⟨i, rfl⟩))
  · exact .inr (.inr (.inr (.inr (.inl ⟨p, xs, rfl, SqL.of q⟩))))
  · exact .inr (.inr (.inr (.inr (.inr (.inl ⟨p, xs, rfl, SqT.of q⟩)))))
  · exact .inr (.inr (.inr (.inr (.inr (.inr (.inl ⟨p, kvs, rfl, q⟩))))))
theorem Oth.noStr {C : Addr} {K : PySem.W.Frag} {H : Hp} {y : V} (h : Oth C H y) {Q : VK} (q : Q (.bl false) H) : rIsi K [y, .ty "str"] H Q := by
  obtain ⟨A, t, z⟩ := h.ty (K := K)
  rcases z with rfl | rfl | rfl | rfl | rfl | rfl <;> exact isi_t t (b := false) (by decide +kernel) q
section
variable {P : Program} {w : World} {K : PySem.W.Frag} {mg : Str → Option Value} {base : Heap} {C : Addr}
abbrev s_Schema_tables : Stmt := inClass (top 60) 1
theorem sc_Schema_tables : FnScope ["self"] ["self"] (defScope s_Schema_tables) :=
  ⟨rfl, rfl, rfl, by decide +kernel, rfl, by decide +kernel, by decide +kernel⟩
abbrev s_Schema___contains__ : Stmt := inClass (top 60) 6
theorem sc_Schema___contains__ : FnScope ["self", "x"] ["self", "x"] (defScope s_Schema___contains__) :=
  ⟨rfl, rfl, rfl, by decide +kernel, rfl, by decide +kernel, by decide +kernel⟩
abbrev s_Schema___len__ : Stmt := inClass (top 60) 7
theorem sc_Schema___len__ : FnScope ["self"] ["self"] (defScope s_Schema___len__) :=
  ⟨rfl, rfl, rfl, by decide +kernel, rfl, by decide +kernel, by decide +kernel⟩
abbrev s_Schema___eq__ : Stmt := inClass (top 60) 8
theorem sc_Schema___eq__ : FnScope ["self", "other"] ["self", "other"] (defScope s_Schema___eq__) :=
  ⟨rfl, rfl, rfl, by decide +kernel, rfl, by decide +kernel, by decide +kernel⟩
def spTables (C : Addr) : Sp := fun vs H Q _ => ∃ (p : Addr) (ts zs : List AT), vs = [.ref p] ∧ SchAt C H p ts zs ∧ ∀ t, H t = some (.tup (refsOf zs)) → Q (.ref t) H
theorem ok_tables {f : Addr} {fd : FuncData} (F : Fun K "tables" "Schema.tables" s_Schema_tables f fd) (T : Txt K C) : FnOk P w K mg base CX0 1 f fd ["self"] (spTables C) := by
  refine F.ok sc_Schema_tables (fun vs H Q E h => ?_) (fun cdv A up s H vs Q E hr h => ?_)
  · obtain ⟨p, ts, zs, rfl, _⟩ := h
    rfl
  · obtain ⟨p, ts, zs, rfl, S, k⟩ := h
    obtain ⟨dx, d, t, h1, h2, h3⟩ := S.ex
    refine ⟨_, (pss_one (ps_ret (pe_fld (pv 0) rfl))), ?_⟩
    walk_at "rr"
    exact ⟨_, rfl, p, C, dx, _, _, rfl, h1, T.cl, T.nT, flds_tables _ _, k t h3⟩
def spLen (C : Addr) : Sp := fun vs H Q _ => ∃ (p : Addr) (ts zs : List AT), vs = [.ref p] ∧ SchAt C H p ts zs ∧ Q (.int ts.length) H
theorem ok_len {f : Addr} {fd : FuncData} (F : Fun K "__len__" "Schema.__len__" s_Schema___len__ f fd) (T : Txt K C) (z_len : mg "len" = none) : FnOk P w K mg base CX0 1 f fd ["self"] (spLen C) := by
  refine F.ok sc_Schema___len__ (fun vs H Q E h => ?_) (fun cdv A up s H vs Q E hr h => ?_)
  · obtain ⟨p, ts, zs, rfl, _⟩ := h
    rfl
  · obtain ⟨p, ts, zs, rfl, S, k⟩ := h
    obtain ⟨dx, d, t, h1, h2, h3⟩ := S.ex
    refine ⟨_, (pss_one (ps_ret (pe_callB (c_lenK (K := K) rfl) (by rfl) z_len (by decide +kernel) (pa_cons (pe_fld (pv 0) rfl) pa_nil)))), ?_⟩
    walk_at "rr"
    refine ⟨_, rfl, p, C, dx, _, _, rfl, h1, T.cl, T.nT, flds_tables _ _, ?_⟩
    walk_at "rr"
    unfold refsOf
    rw [List.length_map, S.perm.length_eq]
    exact k
def spIn (C : Addr) : Sp := fun vs H Q _ => ∃ (p : Addr) (ts zs : List AT) (y : V), vs = [.ref p, y] ∧ SchAt C H p ts zs ∧ ((∃ z, y = .str z ∧ Q (.bl (decide (z ∈ namesOf ts))) H) ∨ (Oth C H y ∧ Q (.bl false) H))
theorem ok_in {f : Addr} {fd : FuncData} (F : Fun K "__contains__" "Schema.__contains__" s_Schema___contains__ f fd) (T : Txt K C) (z_isinstance : mg "isinstance" = none) (z_str : mg "str" = none) : FnOk P w K mg base CX0 1 f fd ["self", "x"] (spIn C) := by
  refine F.ok sc_Schema___contains__ (fun vs H Q E h => ?_) (fun cdv A up s H vs Q E hr h => ?_)
  · obtain ⟨p, ts, zs, y, rfl, _⟩ := h
    rfl
  · obtain ⟨p, ts, zs, y, rfl, S, k⟩ := h
    obtain ⟨dx, d, t, h1, h2, h3⟩ := S.ex
    have hu := hu_of hr
    refine ⟨_, (pss_one (ps_ret (pe_and (pe_callB call_isi (by rfl) z_isinstance (by decide +kernel) (pa_cons (pv 1) (pa_cons (pe_bltn (v := .ty "str") (by rfl) z_str PyProof.Rows.boot_str rfl) pa_nil))) (pe_one (pe_cmp (pc_din hu (pv 1) (pe_fld (pv 0) rfl))))))), ?_⟩
    walk_at "rr"
    rcases k with ⟨z, rfl, k⟩ | ⟨o, k⟩
    · refine isi_t (.base (.str z)) (b := true) (by decide +kernel) ?_
      walk_at "rr"
      refine ⟨_, rfl, p, C, dx, _, _, rfl, h1, T.cl, T.nN, flds_named _ _, _, _, rfl, DGet.k (k := Sum.inr z) h2, ?_⟩
      rw [kvs_has rfl]
      exact k
    · refine o.noStr ?_
      walk_at "rr"
      exact k
structure ClsT (K : PySem.W.Frag) (C : Addr) : Prop where
  c1 : PySem.W.findIn K (.ref C) "__class__" = some (some (.builtin "object.__class__"))
  c2 : PySem.W.specialIn K (.builtin "object.__class__") "__get__" = some (some (.builtin "getset_descriptor.__get__"))
  c3 : PySem.W.takesIn K (.builtin "object.__class__") = some true
  c4 : PySem.W.mroIn K C (.type "object") = some true
  self : PySem.W.kitOne K (.ref C) (.ref C) = some true
  non : PySem.W.kitOne K (.type "NoneType") (.ref C) = some false
  bl : PySem.W.kitOne K (.type "bool") (.ref C) = some false
  int : PySem.W.kitOne K (.type "int") (.ref C) = some false
  str : PySem.W.kitOne K (.type "str") (.ref C) = some false
  lst : PySem.W.kitOne K (.type "list") (.ref C) = some false
  tup : PySem.W.kitOne K (.type "tuple") (.ref C) = some false
  dct : PySem.W.kitOne K (.type "dict") (.ref C) = some false
def spEq (C : Addr) : Sp := fun vs H Q _ => ∃ (p : Addr) (ts zs : List AT) (y : V), vs = [.ref p, y] ∧ SchAt C H p ts zs ∧ (((Oth C H y ∨ ∃ z, y = .str z) ∧ Q (.bl false) H) ∨ ∃ q ts' zs', y = .ref q ∧ SchAt C H q ts' zs' ∧ Q (.bl (decide (zs.map (·.2) = zs'.map (·.2)))) H)
theorem ok_eq {f : Addr} {fd : FuncData} (F : Fun K "__eq__" "Schema.__eq__" s_Schema___eq__ f fd) (T : Txt K C) (Z : ClsT K C) (z_isinstance : mg "isinstance" = none) (g_Schema : mg "Schema" = some (.ref C)) : FnOk P w K mg base CX0 1 f fd ["self", "other"] (spEq C) := by
  refine F.ok sc_Schema___eq__ (fun vs H Q E h => ?_) (fun cdv A up s H vs Q E hr h => ?_)
  · obtain ⟨p, ts, zs, y, rfl, _⟩ := h
    rfl
  · obtain ⟨p, ts, zs, y, rfl, S, k⟩ := h
    obtain ⟨dx, d, t, h1, h2, h3⟩ := S.ex
    refine ⟨_, (pss_one (ps_ret (pe_and (pe_callB call_isi (by rfl) z_isinstance (by decide +kernel) (pa_cons (pv 1) (pa_cons (pe_glob (v := .ref C) rfl g_Schema rfl) pa_nil))) (pe_one (pe_cmpR (op_eqD hr.units) (pe_fld (pv 0) rfl) (pe_fld (pv 1) rfl) (nomark _)))))), ?_⟩
    walk_at "rr"
    have isC : ∀ {A : String} {b : Bool} {Q : VK}, TyX K H y (.type A) → PySem.W.kitOne K (.type A) (.ref C) = some b → Q (.bl b) H → rIsi K [y, .ref C] H Q := fun t e q => ⟨_, _, _, _, _, rfl, .own _, t, e, q⟩
    rcases k with ⟨o, k⟩ | ⟨q, ts', zs', rfl, S', k⟩
    · have no : ∀ {A : String}, TyX K H y (.type A) → PySem.W.kitOne K (.type A) (.ref C) = some false → _ := fun t e => isC t e (Q := fun x H1 => ∃ c, x = V.bl c ∧ if c = true then tOp (rEqD K) (tFld K (tVar 0) "_tables") (tFld K (tVar 1) "_tables") (start ["self", "other"] [V.ref p, y]) H1 Q else Q (V.bl false) H1) ⟨_, rfl, k_ifFf k⟩
      rcases o with o | ⟨z, rfl⟩
      · obtain ⟨A, t, z⟩ := o.ty (K := K)
        rcases z with rfl | rfl | rfl | rfl | rfl | rfl
        · exact no t Z.non
        · exact no t Z.bl
        · exact no t Z.int
        · exact no t Z.lst
        · exact no t Z.tup
        · exact no t Z.dct
      · exact no (.base (.str z)) Z.str
    · obtain ⟨dx', d', t', h1', h2', h3'⟩ := S'.ex
      refine ⟨_, _, _, _, true, rfl, .own C, .base (.ins h1' T.cl Z.c1 Z.c2 Z.c3 Z.c4), Z.self, ?_⟩
      walk_at "rr"
      refine ⟨_, rfl, p, C, dx, _, _, rfl, h1, T.cl, T.nT, flds_tables _ _, ?_⟩
      refine ⟨_, rfl, q, C, dx', _, _, rfl, h1', T.cl, T.nT, flds_tables _ _, ?_⟩
      have o1 : ∀ x ∈ zs, TAt H x.1 x.2 ∧ x.2.Ok := fun x hx => S.ok x (S.perm.mem_iff.mp hx)
      have o2 : ∀ x ∈ zs', TAt H x.1 x.2 ∧ x.2.Ok := fun x hx => S'.ok x (S'.perm.mem_iff.mp hx)
      refine ⟨_, _, dp_tabs h3 fun x hx => (o1 x hx).1, dp_tabs h3' fun x hx => (o2 x hx).1, shaped_tabs fun t ht => ?_, shaped_tabs fun t ht => ?_, ?_⟩
      · obtain ⟨x, hx, rfl⟩ := List.mem_map.mp ht
        exact (o1 x hx).2
      · obtain ⟨x, hx, rfl⟩ := List.mem_map.mp ht
        exact (o2 x hx).2
      · rw [eqv_tabs]
        exact k
end
end K11

set_option Elab.async false
set_option maxRecDepth 100000
set_option maxHeartbeats 4000000
set_option linter.unusedVariables false
namespace K11
open PySem PySem.Spec PyProof.Rows L2 Own
-- steps
local macro_rules | `(tactic| walk_at "lk") => `(tactic| first
  | assumption | exact upd_same
  | ((with_reducible refine' lk_new ?e (by assumption)); (case e => walk_at "lk"))
  | ((with_reducible refine' lk_ext (by assumption) ?e); (case e => walk_at "lk"))
  | ((with_reducible refine' lk_same (by assumption) ?e); (case e => walk_at "lk")))
local macro_rules | `(tactic| walk_at "sq") => `(tactic| first | assumption | exact SqL.of (by walk_at "lk") | exact SqT.of (by walk_at "lk"))
local macro_rules | `(tactic| walk_at "r1") => `(tactic| first
  | with_reducible refine k_seq ?_ | with_reducible refine k_asg ?_ | with_reducible refine k_ret ?_ | with_reducible refine k_drop ?_ | with_reducible refine k_next ?_ | with_reducible refine k_ifS ?_
  | ((with_reducible refine' k_var ?e ?_); (case e => exact rfl)) | with_reducible refine k_c ?_ | with_reducible refine k_op ?_ | with_reducible refine k_un ?_ | with_reducible refine k_test ?_ | with_reducible refine k_B ?_
  | with_reducible refine k_and ?_ | with_reducible refine k_or ?_ | with_reducible refine k_not ?_ | with_reducible refine k_andV ?_ | with_reducible refine k_orV ?_ | with_reducible refine k_notV ?_ | with_reducible refine k_if ?_
  | with_reducible refine k_nil ?_ | with_reducible refine k_cons ?_ | with_reducible refine k_tup ?_ | with_reducible refine k_lst ?_ | with_reducible refine k_call ?_ | with_reducible refine k_cb ?_ | with_reducible refine k_ck ?_
  | with_reducible refine k_par ?_ | with_reducible refine k_par1 ?_ | with_reducible refine k_tr ?_ | with_reducible refine k_rI0 ?_ | with_reducible refine k_rU ?_
  | with_reducible refine k_gN ?_ | with_reducible refine k_gS ?_ | with_reducible refine k_gNil ?_ | with_reducible refine k_gCons ?_ | with_reducible refine k_bm0 ?_ | with_reducible refine k_bm ?_
  | with_reducible refine k_for ?_ | with_reducible refine k_iL ?_ | with_reducible refine k_iT ?_ | with_reducible refine k_iR1 ?_ | ((with_reducible refine k_iR1i ?e ?_); (case e => first | decide | exact ⟨by omega, by omega⟩))
  | with_reducible refine k_max ?_ | with_reducible refine k_isB ?_ | with_reducible refine k_sl ?_ | with_reducible refine k_noP ?_ | with_reducible refine k_part ?_ | with_reducible refine k_partI ?_ | with_reducible refine k_revL ?_
  | ((with_reducible refine' k_ixqT ?e ?f ?_); (case e => walk_at "sq"); (case f => first | exact rfl | exact atI_head))
  | ((with_reducible refine' k_ixqL ?e ?f ?_); (case e => walk_at "sq"); (case f => first | exact rfl | exact atI_head))
  | ((with_reducible refine' k_lenL ?e ?_); (case e => walk_at "sq"))
  | ((with_reducible refine' k_lenT ?e ?_); (case e => walk_at "sq"))
  | ((with_reducible refine' k_ixL ?e ?f ?_); (case e => walk_at "sq"); (case f => first | exact rfl | exact atI_head))
  | ((with_reducible refine' k_ixT ?e ?f ?_); (case e => walk_at "sq"); (case f => first | exact rfl | exact atI_head))
  | ((with_reducible refine k_eq ?e ?_); (case e => exact rfl)) | ((with_reducible refine k_ne ?e ?_); (case e => exact rfl))
  | ((with_reducible refine k_rI ?e ?_); (case e => first | assumption | omega | decide | exact ⟨by omega, by omega⟩ | exact .inl ⟨by omega, by omega⟩ | exact .inr ⟨by omega, by omega⟩)))
local macro_rules | `(tactic| walk_at "rd") => `(tactic| repeat walk_at "r1")
local macro_rules | `(tactic| walk_at "r2") => `(tactic| first
  | walk_at "r1"
  | with_reducible refine k_ifTt ?_ | with_reducible refine k_ifFf ?_ | with_reducible refine k_ifNt ?_ | with_reducible refine k_ifNf ?_
  | with_reducible refine k_makeR ?_ | with_reducible refine k_tJ ?_ | with_reducible refine k_tJc ?_ | with_reducible refine k_tJn ?_ | with_reducible refine k_fmt ?_ | with_reducible refine k_lc ?_ | with_reducible refine k_din ?_ | with_reducible refine k_fld ?_ | with_reducible refine k_dget ?_
  | with_reducible refine k_dput ?_
  | with_reducible refine k_isNv ?_
  | with_reducible refine k_notNv ?_
  | with_reducible refine k_str ?_
  | with_reducible refine k_enumT ?_
  | with_reducible refine k_zipA ?_
  | with_reducible refine k_chain ?_
  | ((with_reducible refine' k_dgS ?e dkv_cells ?_); (case e => walk_at "lk"))
  | ((with_reducible refine' k_dgS ?e dkv_mixed ?_); (case e => walk_at "lk"))
  | ((with_reducible refine' k_dgS ?e dkv_turn ?_); (case e => walk_at "lk")))
local macro_rules | `(tactic| walk_at "rr") => `(tactic| repeat walk_at "r2")
-- steps end
section
variable {P : Program} {w : World} {K : PySem.W.Frag} {mg : Str → Option Value} {base : Heap} {C N fN : Addr} {fdN : FuncData}
abbrev s_NoTable___init__ : Stmt := inClass (top 5) 0
theorem sc_NoTable___init__ : FnScope ["self", "name"] ["self", "name"] (defScope s_NoTable___init__) :=
  ⟨rfl, rfl, rfl, by decide +kernel, rfl, by decide +kernel, by decide +kernel⟩
abbrev s_Schema___getitem__ : Stmt := inClass (top 60) 4
theorem sc_Schema___getitem__ : FnScope ["self", "at"] ["self", "at"] (defScope s_Schema___getitem__) :=
  ⟨rfl, rfl, rfl, by decide +kernel, rfl, by decide +kernel, by decide +kernel⟩
/-! ### NoTable -/
def spNo (N : Addr) : Sp := fun vs H Q _ => ∃ (a : Addr) (x : V), vs = [.ref a, x] ∧ H a = some (exo a N none) ∧ ∀ d, H d = none → d ≠ a → Q .non (upd (upd H d (exd d [(("name" : Str), x)])) a (exo a N (some d)))
structure NoTxt (K : PySem.W.Frag) (N : Addr) : Prop where
  ox : OexC K N
  n1 : PySem.W.findIn K (.ref N) "name" = some none
theorem ok_no (F : Fun K "__init__" "NoTable.__init__" s_NoTable___init__ fN fdN) (T : NoTxt K N) : FnOk P w K mg base CX0 1 fN fdN ["self", "name"] (spNo N) := by
  refine F.ok sc_NoTable___init__ (fun vs H Q E h => ?_) (fun cdv A up s H vs Q E hr h => ?_)
  · obtain ⟨a, x, rfl, _⟩ := h
    rfl
  · obtain ⟨a, x, rfl, ha, k⟩ := h
    refine ⟨_, pss_one (ps_ost (pv 0) (pv 1)), ?_⟩
    exact ⟨_, rfl, _, rfl, a, N, rfl, T.ox, T.n1, .inl ⟨ha, fun d hd ne => k d hd ne⟩⟩
/-- what schema[x] lets out -/
def outNo (N : Addr) (H : Hp) (x : V) (E : XK) : Prop := ∀ (d : Addr) (H' : Hp), Same H H' → H d = none → H' d = some (.xd [(("name" : Str), x)]) → E (.ref N) (some d) H'
structure Ins (P : Program) (w : World) (K : PySem.W.Frag) (mg : Str → Option Value) (base : Heap) (C N : Addr) : Prop where
  tx : Txt K C
  nt : NoTxt K N
  gN : mg "NoTable" = some (.ref N)
  ci : ∃ f, PySem.W.findIn K (.ref C) "__contains__" = some (some (.ref f)) ∧ PySem.W.typeIn K (.ref f) = some (.type "function") ∧ FnR P w K mg base CX0 1 f (spIn C)
  ni : ∃ f fd, PySem.W.findIn K (.ref N) "__init__" = some (some (.ref f)) ∧ PySem.W.typeIn K (.ref f) = some (.type "function") ∧ FnOk P w K mg base CX0 1 f fd ["self", "name"] (spNo N) ∧ Binds K fd ["self", "name"] []
theorem no_made {H : Hp} {a d : Addr} {x : V} (ha : H a = none) (hd : H d = none) (ne : d ≠ a) :
    Same H (upd (del (upd (upd (upd H a (exo a N none)) d (exd d [(("name" : Str), x)])) a (exo a N (some d))) a) d (.xd [(("name" : Str), x)])) := fun b o e => by
  have na := ne_of_none e ha
  have nd := ne_of_none e hd
  rw [upd_ne nd, del_ne na, upd_ne na, upd_ne nd, upd_ne na]
  exact e
def spGet (C N : Addr) : Sp := fun vs H Q E => ∃ (p : Addr) (ts zs : List AT) (y : V), vs = [.ref p, y] ∧ SchAt C H p ts zs ∧
  ((∃ x, x ∈ ts ∧ y = .str x.2.nm ∧ Q (.ref x.1) H) ∨ (((∃ z, y = .str z ∧ ¬ z ∈ namesOf ts) ∨ Oth C H y) ∧ outNo N H y E))
theorem ok_get {f : Addr} {fd : FuncData} (F : Fun K "__getitem__" "Schema.__getitem__" s_Schema___getitem__ f fd) (T : Ins P w K mg base C N) :
    FnOk P w K mg base (L2.CX P w) 3 f fd ["self", "at"] (spGet C N) := by
  obtain ⟨fc, i1, i2, FC⟩ := T.ci
  obtain ⟨fn, fdn, j1, j2, FN, bN⟩ := T.ni
  refine F.okX sc_Schema___getitem__ (fun vs H Q E h => ?_) (fun cdv A up s H vs Q E hr h => ?_)
  · obtain ⟨p, ts, zs, y, rfl, _⟩ := h
    rfl
  · obtain ⟨p, ts, zs, y, rfl, S, k⟩ := h
    obtain ⟨dx, d, t, h1, h2, h3⟩ := S.ex
    have hu := hu_of hr
    refine ⟨_, pss_cons (ps_if (pt_cmpR (op_notInO i1 i2 FC (hr.mono (by decide)) pass0) (pv 1) (pv 0) (by rfl))
        (pss_one (ps_raise rfl (takes_of rfl rfl rfl rfl) (pmk_oex T.nt.ox j1 j2 FN hr bN .nil pass0 (by rfl) T.gN (pa_cons (pv 1) pa_nil)))) pss_nil)
      (PSs.nox (pss_one (ps_ret (pe_dget hu (pe_fld (pv 0) rfl) (pv 1) (fun _ _ => rfl))))), ?_⟩
    walk_at "rr"
    refine ⟨p, dx, _, rfl, h1, p, ts, zs, y, rfl, S, ?_⟩
    rcases k with ⟨x, hx, rfl, k⟩ | ⟨hy, k⟩
    · refine .inl ⟨_, rfl, _, rfl, ?_⟩
      rw [decide_eq_true (show x.2.nm ∈ namesOf ts from List.mem_map.mpr ⟨x, hx, rfl⟩)]
      walk_at "rr"
      refine ⟨_, rfl, p, C, dx, _, _, rfl, h1, T.tx.cl, T.tx.nN, flds_named _ _, ?_⟩
      walk_at "rr"
      exact k_dgS h2 (kvs_get S.nd hx) k
    · have fin : tMkO N (spNo N) [] (tCons (tVar 1) tNil) (L2.start [Str.ofString "self", Str.ofString "at"] [V.ref p, y]) H fun cls d H' => E cls d H' := by
        refine ⟨_, rfl, (by show 1 ≤ 1000; decide), fun a ha => ?_⟩
        refine ⟨a, _, rfl, upd_same, fun b hb nb => ?_⟩
        have hb' : H b = none := by rw [upd_ne nb] at hb; exact hb
        refine ⟨rfl, b, [(("name" : Str), y)], upd_same, ?_, hb', ?_⟩
        · rw [upd_ne nb, upd_same]
        · exact k b _ (no_made ha hb' nb) hb' upd_same
      rcases hy with ⟨z, rfl, nz⟩ | o
      · refine .inl ⟨_, rfl, _, rfl, ?_⟩
        rw [decide_eq_false nz]
        walk_at "rr"
        exact fin
      · refine .inr ⟨o, _, rfl, ?_⟩
        walk_at "rr"
        exact fin
end
end K11

set_option Elab.async false
set_option maxRecDepth 100000
set_option maxHeartbeats 4000000
set_option linter.unusedVariables false
namespace K11
open PySem PySem.Spec PyProof.Rows L2 Own
/-! ### names, as the law picks them -/
def cutL {α : Type} (zs : List α) (lo hi : Option Int) : List α := (zs.drop (HT.sIx zs.length 0 lo)).take (HT.sIx zs.length zs.length hi - HT.sIx zs.length 0 lo)
theorem cut_map {α : Type} (f : α → V) (zs : List α) (lo hi : Option Int) : cutV (zs.map f) lo hi = (cutL zs lo hi).map f := by
  unfold cutV cutL
  rw [List.length_map, List.map_take, List.map_drop]
def turnedOf (f : Nat) : Str := cutS letters (some (f : Int)) none ++ cutS letters none (some (f : Int))
theorem turn_len : ∀ f < 26, (cutS letters (some ((f : Nat) : Int)) none).length + (cutS letters none (some ((f : Nat) : Int))).length ≤ 100 ∧ (turnedOf f).cps.size = 26 := by decide +kernel
def wordsT : Str := "where from some none set tell to and update insert delete table index next key row"
def wordsL : List Str := Txt.split wordsT " "
def nodupB : List Str → Bool
  | [] => true
  | z :: zs => !(zs.any fun y => decide (y = z)) && nodupB zs
theorem nodupB_ok : ∀ {zs : List Str}, nodupB zs = true → zs.Nodup
  | [], _ => List.nodup_nil
  | z :: zs, h => by
    unfold nodupB at h
    rw [Bool.and_eq_true] at h
    refine List.nodup_cons.mpr ⟨fun m => ?_, nodupB_ok h.2⟩
    have h1 := h.1
    rw [Bool.not_eq_true', List.any_eq_false] at h1
    exact h1 z m (decide_eq_true rfl)
def fineB (n : Nat) (zs : List Str) : Bool := decide (zs.length = n) && zs.all isNameB && nodupB zs
def rotL (a : Nat) : List Str := cutL wordsL (some (a : Int)) none ++ cutL wordsL none (some (a : Int))
def pre (way : Nat) : Str := if way = 1 then "" else "longest"
def lettersOf (way f : Nat) : List Str := (turnedOf f).cps.toList.map fun c => pre way ++ ⟨#[c]⟩
theorem words_len : wordsL.length = 16 := by decide +kernel
theorem fine_w : ∀ a < 16, ∀ n < 5, fineB n (cutL (rotL a) none (some (n : Int))) = true := by decide +kernel
theorem fine_l : ∀ way < 3, 0 < way → ∀ f < 26, ∀ n < 5, fineB n (cutL (lettersOf way f) none (some (n : Int))) = true := by decide +kernel
theorem ix_seqK {X : Cx} {K : PySem.W.Frag} (h : X.K = K) : IxR X (rIx K) := h ▸ ix_seq
structure Names (n : Nat) (zs : List Str) : Prop where
  len : zs.length = n
  nm : ∀ z ∈ zs, isNameB z = true
  nd : zs.Nodup
theorem names_of {n : Nat} {zs : List Str} (h : fineB n zs = true) : Names n zs := by
  unfold fineB at h
  rw [Bool.and_eq_true, Bool.and_eq_true] at h
  exact ⟨of_decide_eq_true h.1.1, List.all_eq_true.mp h.1.2, nodupB_ok h.2⟩
end K11

set_option Elab.async false
set_option maxRecDepth 100000
set_option maxHeartbeats 4000000
set_option linter.unusedVariables false
namespace K11
open PySem PySem.Spec PyProof.Rows L2 Own
-- steps
local macro_rules | `(tactic| walk_at "lk") => `(tactic| first
  | assumption | exact upd_same
  | ((with_reducible refine' lk_new ?e (by assumption)); (case e => walk_at "lk"))
  | ((with_reducible refine' lk_ext (by assumption) ?e); (case e => walk_at "lk"))
  | ((with_reducible refine' lk_same (by assumption) ?e); (case e => walk_at "lk")))
local macro_rules | `(tactic| walk_at "sq") => `(tactic| first | assumption | exact SqL.of (by walk_at "lk") | exact SqT.of (by walk_at "lk"))
local macro_rules | `(tactic| walk_at "r1") => `(tactic| first
  | with_reducible refine k_seq ?_ | with_reducible refine k_asg ?_ | with_reducible refine k_ret ?_ | with_reducible refine k_drop ?_ | with_reducible refine k_next ?_ | with_reducible refine k_ifS ?_
  | ((with_reducible refine' k_var ?e ?_); (case e => exact rfl)) | with_reducible refine k_c ?_ | with_reducible refine k_op ?_ | with_reducible refine k_un ?_ | with_reducible refine k_test ?_ | with_reducible refine k_B ?_
  | with_reducible refine k_and ?_ | with_reducible refine k_or ?_ | with_reducible refine k_not ?_ | with_reducible refine k_andV ?_ | with_reducible refine k_orV ?_ | with_reducible refine k_notV ?_ | with_reducible refine k_if ?_
  | with_reducible refine k_nil ?_ | with_reducible refine k_cons ?_ | with_reducible refine k_tup ?_ | with_reducible refine k_lst ?_ | with_reducible refine k_call ?_ | with_reducible refine k_cb ?_ | with_reducible refine k_ck ?_
  | with_reducible refine k_par ?_ | with_reducible refine k_par1 ?_ | with_reducible refine k_tr ?_ | with_reducible refine k_rI0 ?_ | with_reducible refine k_rU ?_
  | with_reducible refine k_gN ?_ | with_reducible refine k_gS ?_ | with_reducible refine k_gNil ?_ | with_reducible refine k_gCons ?_ | with_reducible refine k_bm0 ?_ | with_reducible refine k_bm ?_
  | with_reducible refine k_for ?_ | with_reducible refine k_iL ?_ | with_reducible refine k_iT ?_ | with_reducible refine k_iR1 ?_ | ((with_reducible refine k_iR1i ?e ?_); (case e => first | decide | exact ⟨by omega, by omega⟩))
  | with_reducible refine k_max ?_ | with_reducible refine k_isB ?_ | with_reducible refine k_sl ?_ | with_reducible refine k_noP ?_ | with_reducible refine k_part ?_ | with_reducible refine k_partI ?_ | with_reducible refine k_revL ?_
  | ((with_reducible refine' k_ixqT ?e ?f ?_); (case e => walk_at "sq"); (case f => first | exact rfl | exact atI_head))
  | ((with_reducible refine' k_ixqL ?e ?f ?_); (case e => walk_at "sq"); (case f => first | exact rfl | exact atI_head))
  | ((with_reducible refine' k_lenL ?e ?_); (case e => walk_at "sq"))
  | ((with_reducible refine' k_lenT ?e ?_); (case e => walk_at "sq"))
  | ((with_reducible refine' k_ixL ?e ?f ?_); (case e => walk_at "sq"); (case f => first | exact rfl | exact atI_head))
  | ((with_reducible refine' k_ixT ?e ?f ?_); (case e => walk_at "sq"); (case f => first | exact rfl | exact atI_head))
  | ((with_reducible refine k_eq ?e ?_); (case e => exact rfl)) | ((with_reducible refine k_ne ?e ?_); (case e => exact rfl))
  | ((with_reducible refine k_rI ?e ?_); (case e => first | assumption | omega | decide | exact ⟨by omega, by omega⟩ | exact .inl ⟨by omega, by omega⟩ | exact .inr ⟨by omega, by omega⟩)))
local macro_rules | `(tactic| walk_at "rd") => `(tactic| repeat walk_at "r1")
local macro_rules | `(tactic| walk_at "r2") => `(tactic| first
  | walk_at "r1"
  | with_reducible refine k_ifTt ?_ | with_reducible refine k_ifFf ?_ | with_reducible refine k_ifNt ?_ | with_reducible refine k_ifNf ?_
  | with_reducible refine k_makeR ?_ | with_reducible refine k_tJ ?_ | with_reducible refine k_tJc ?_ | with_reducible refine k_tJn ?_ | with_reducible refine k_fmt ?_ | with_reducible refine k_lc ?_ | with_reducible refine k_din ?_ | with_reducible refine k_fld ?_ | with_reducible refine k_dget ?_
  | with_reducible refine k_dput ?_
  | with_reducible refine k_isNv ?_
  | with_reducible refine k_notNv ?_
  | with_reducible refine k_str ?_
  | with_reducible refine k_enumT ?_
  | with_reducible refine k_zipA ?_
  | with_reducible refine k_chain ?_
  | ((with_reducible refine' k_dgS ?e dkv_cells ?_); (case e => walk_at "lk"))
  | ((with_reducible refine' k_dgS ?e dkv_mixed ?_); (case e => walk_at "lk"))
  | ((with_reducible refine' k_dgS ?e dkv_turn ?_); (case e => walk_at "lk")))
local macro_rules | `(tactic| walk_at "rr") => `(tactic| repeat walk_at "r2")
-- steps end
section
variable {P : Program} {w : World} {K : PySem.W.Frag} {mg : Str → Option Value} {g0 : Heap}
abbrev s_names : Stmt := top 72
theorem sc_names : FnScope ["_law_deck_here", "_law_many", "_law_letters", "_law_words", "_law_turned", "_law_way", "_law_first", "_law_at", "_law_letter"] ["_law_deck_here", "_law_many"] (defScope s_names) :=
  ⟨rfl, rfl, rfl, by decide +kernel, rfl, by decide +kernel, by decide +kernel⟩
def StrsAt (H : Hp) (l : Addr) (zs : List Str) : Prop := H l = some (.lst (zs.map V.str))
theorem ext_free {M : Addr → Prop} {H H' : Hp} {a : Addr} (x : Ext M H H') (n : ¬ M a) (h : H' a = none) : H a = none := by
  match e : H a with
  | none => rfl
  | some o =>
    rw [x.2 a o n e] at h
    cases h
def spNames : Sp := fun vs H Q _ => ∃ (d c : Addr) (b : Int) (many : Nat), vs = [.ref d, .int many] ∧ DeckE d c b H ∧ b ≤ 1000000 ∧ many ≤ 4 ∧
  ∀ (l : Addr) (zs : List Str) (H' : Hp), Names many zs → DeckE d c (b + 10) H' → Ext (Dk d c) H H' → StrsAt H' l zs → ¬ Dk d c l → H l = none → Q (.ref l) H'
theorem ok_names {f : Addr} {fd : FuncData} (F : Fun K "_law_names" "_law_names" s_names f fd) (z_int : mg "int" = none) (z_len : mg "len" = none)
    (C_draw : Cal P w K mg g0 "_law_draw" 1 ["_law_deck_here", "_law_bound"] spDraw) : GOk P w K mg g0 CX0 2 f fd ["_law_deck_here", "_law_many"] spNames := by
  have nd := sc_names.nd
  refine okG F sc_names (fun vs H Q E h => ?_) (fun cdv A up s H vs Q E qt hr h => ?_)
  · obtain ⟨d, c, b, many, rfl, _⟩ := h
    rfl
  · obtain ⟨d, c, b, many, rfl, D, hb, hm, k⟩ := h
    refine ⟨_, (pss_cons (ps_asg (pe_tup (pa_cons (pe_c C_draw qt (hr.mono (by decide)) (pa_cons (pv 0) (pa_cons pe_int pa_nil))) (pa_cons (pe_c C_draw qt (hr.mono (by decide)) (pa_cons (pv 0) (pa_cons pe_int pa_nil))) pa_nil))) (pg_tup rfl (pgs_cons (pg_name (i := 5) nd rfl (Or.inr rfl)) (pgs_cons (pg_name (i := 6) nd rfl (Or.inl rfl)) pgs_nil))))
        (pss_cons (ps_set (i := 2) nd rfl (Or.inl rfl) pe_str)
        (pss_cons (ps_set (i := 3) nd rfl (Or.inl rfl) (pe_split pe_str pe_str))
        (pss_cons (ps_if (pt_cmpR op_eq (pv 5) pe_int (nomark _)) (pss_cons (ps_set (i := 7) nd rfl (Or.inl rfl) (pe_op op_mod (pe_callTy call_int1 (by rfl) z_int (by decide +kernel) (pa_cons (pv 6) pa_nil)) (pe_callB c_len (by rfl) z_len (by decide +kernel) (pa_cons (pv 3) pa_nil))))
        (pss_one (ps_ret (pe_slice sl_list (pe_op op_cat (pe_slice sl_list (pv 3) (po_some (pv 7)) po_none) (pe_slice sl_list (pv 3) po_none (po_some (pv 7)))) po_none (po_some (pv 1)))))) pss_nil)
        (pss_cons (ps_set (i := 4) nd rfl (Or.inl rfl) (pe_op op_add_str (pe_slice sl_str (pv 2) (po_some (pv 6)) po_none) (pe_slice sl_str (pv 2) po_none (po_some (pv 6)))))
        (pss_one (ps_ret (pe_slice sl_list (pe_lc (own := [("_law_letter", 8)]) (g := (gName 8)) (tt := tYes) (te := (tOp _ (tOp _ (tLst (tCons (tC (.str "")) (tCons (tC (.str "longest")) tNil))) (tOp _ (tVar 5) (tC (.int 1)))) (tVar 8))) (by rfl) nd (pi_str (pv 4)) (blkOk_by (own := [("_law_letter", 8)]) (N := ["_law_deck_here", "_law_many", "_law_letters", "_law_words", "_law_turned", "_law_way", "_law_first", "_law_at", "_law_letter"]) (sc := defScope s_names) (by decide +kernel)) (fun _ _ _ _ _ => by exact (pg_name (i := 8) nd rfl (Or.inl rfl))) (fun _ _ _ _ _ => by exact pts_nil) (fun _ _ _ _ _ => by exact (pe_op op_add_str (pe_ix (ix_seqK (K := K) rfl) (pe_lst (pa_cons pe_str (pa_cons pe_str pa_nil))) (pe_op op_sub (pv 5) pe_int) (fun _ _ => rfl)) (pv 8)))) po_none (po_some (pv 1)))))))))), ?_⟩
    walk_at "rr"
    refine ⟨d, c, b, 3, rfl, D, by omega, by decide, by decide, fun way H1 w0 w1 D1 x1 => ?_⟩
    walk_at "rr"
    refine ⟨d, c, b + 1, 26, rfl, D1, by omega, by decide, by decide, fun fir H2 f0 f1 D2 x2 => ?_⟩
    obtain ⟨way, rfl⟩ := Int.eq_ofNat_of_zero_le w0
    obtain ⟨fir, rfl⟩ := Int.eq_ofNat_of_zero_le f0
    walk_at "rr"
    refine ⟨k_sz rfl, fun p hp => ?_⟩
    refine k_gTup (SqT.of upd_same) rfl ?_
    walk_at "rr"
    have D3 := D2.new (o := .tup [.int way, .int fir]) hp
    have x3 := (x1.trans x2).trans (ext_new (o := .tup [.int way, .int fir]) hp)
    generalize upd H2 p _ = H3 at D3 x3 ⊢
    have way3 : way < 3 := by omega
    have fir26 : fir < 26 := by omega
    obtain ⟨tl1, tl2⟩ := turn_len fir fir26
    have sz : ∀ n : Nat, n ≤ 1000 → n ≤ sizeLine := fun n h => Nat.le_trans h (by decide)
    unfold tM1
    walk_at "rr"
    refine ⟨⟨_, rfl⟩, wordsT, " ", rfl, rfl, by decide +kernel, sz _ (by decide +kernel), fun wl hwl => ?_⟩
    rw [show Txt.split wordsT " " = wordsL from rfl]
    have wlD : ¬ Dk d c wl := D3.off hwl
    have wlH : H wl = none := ext_free x3 wlD hwl
    have D4 := D3.new (o := .lst (wordsL.map V.str)) hwl
    have x4 := x3.trans (ext_new (o := .lst (wordsL.map V.str)) hwl)
    have hw4 : StrsAt (upd H3 wl (.lst (wordsL.map V.str))) wl wordsL := upd_same
    generalize upd H3 wl (.lst (wordsL.map V.str)) = H4 at D4 x4 hw4 ⊢
    have done : ∀ (zs : List Str) (H5 : Hp) (l0 : Addr) (b' : Int), DeckE d c b' H5 → b' ≤ b + 10 → Ext (Dk d c) H H5 → H5 l0 = none → Names many zs → Q (.ref l0) (upd H5 l0 (.lst (zs.map V.str))) := fun zs H5 l0 b' D5 lb x5 hl0 hz =>
      k l0 zs _ hz ((D5.mono lb).new hl0) (x5.trans (ext_new hl0)) upd_same (D5.off hl0) (ext_free x5 (D5.off hl0) hl0)
    walk_at "rr"
    refine k_iteD (fun w1' => ?_) fun w1' => ?_
    · walk_at "rr"
      refine .inl ⟨_, rfl, ?_⟩
      walk_at "rr"
      rw [List.length_map, words_len]
      refine k_rI (show (0 : Int) < ((16 : Nat) : Int) by decide) ?_
      rw [show (fir : Int) % ((16 : Nat) : Int) = ((fir % 16 : Nat) : Int) by omega]
      have ha : fir % 16 < 16 := Nat.mod_lt _ (by decide)
      generalize fir % 16 = a at ha ⊢
      walk_at "rr"
      refine k_slL (SqL.of hw4) fun p1 hp1 => ?_
      rw [cut_map]
      have D5 := D4.new (o := .lst ((cutL wordsL (some (a : Int)) none).map V.str)) hp1
      have x5 := x4.trans (ext_new (o := .lst ((cutL wordsL (some (a : Int)) none).map V.str)) hp1)
      have hw5 := lk_new (o := .lst ((cutL wordsL (some (a : Int)) none).map V.str)) hw4 hp1
      have h15 : upd H4 p1 (.lst ((cutL wordsL (some (a : Int)) none).map V.str)) p1 = some (.lst ((cutL wordsL (some (a : Int)) none).map V.str)) := upd_same
      generalize upd H4 p1 (.lst ((cutL wordsL (some (a : Int)) none).map V.str)) = H5 at D5 x5 hw5 h15 ⊢
      walk_at "rr"
      refine k_slL (SqL.of hw5) fun p2 hp2 => ?_
      rw [cut_map]
      have D6 := D5.new (o := .lst ((cutL wordsL none (some (a : Int))).map V.str)) hp2
      have x6 := x5.trans (ext_new (o := .lst ((cutL wordsL none (some (a : Int))).map V.str)) hp2)
      have h16 := lk_new (o := .lst ((cutL wordsL none (some (a : Int))).map V.str)) h15 hp2
      have h26 : upd H5 p2 (.lst ((cutL wordsL none (some (a : Int))).map V.str)) p2 = some (.lst ((cutL wordsL none (some (a : Int))).map V.str)) := upd_same
      generalize upd H5 p2 (.lst ((cutL wordsL none (some (a : Int))).map V.str)) = H6 at D6 x6 h16 h26 ⊢
      walk_at "rr"
      have cl : ∀ lo hi, (cutL wordsL lo hi).length ≤ 16 := fun lo hi => by
        have := cutV_length (wordsL.map V.str) lo hi
        rw [cut_map, List.length_map, List.length_map, words_len] at this
        exact this
      refine ⟨p1, p2, _, _, rfl, rfl, h16, h26, by rw [List.length_map, List.length_map, sizeLine_eq]; have := cl (some (a : Int)) none; have := cl none (some (a : Int)); omega, fun p3 hp3 => ?_⟩
      rw [← List.map_append]
      have D7 := D6.new (o := .lst ((rotL a).map V.str)) hp3
      have x7 := x6.trans (ext_new (o := .lst ((rotL a).map V.str)) hp3)
      have h37 : upd H6 p3 (.lst ((rotL a).map V.str)) p3 = some (.lst ((rotL a).map V.str)) := upd_same
      unfold rotL at D7 x7 h37
      generalize upd H6 p3 _ = H7 at D7 x7 h37 ⊢
      walk_at "rr"
      refine k_slL (SqL.of h37) fun p4 hp4 => ?_
      rw [cut_map]
      walk_at "rr"
      exact done (cutL (rotL a) none (some (many : Int))) H7 p4 _ D7 (by omega) x7 hp4 (names_of (fine_w a ha many (by omega)))
    · have wp : 0 < way := by
        rcases Nat.eq_zero_or_pos way with z | z
        · rw [z] at w1'
          exact absurd rfl w1'
        · exact z
      walk_at "rr"
      refine ⟨letters, rfl, sz _ (by decide), ?_⟩
      walk_at "rr"
      refine ⟨letters, rfl, sz _ (by decide), _, _, rfl, rfl, sz _ (by omega), ?_⟩
      rw [show cutS letters (some (fir : Int)) none ++ cutS letters none (some (fir : Int)) = turnedOf fir from rfl]
      walk_at "rr"
      refine ⟨turnedOf fir, rfl, fun L hL => ?_⟩
      have D5 := D4.new (o := .lst []) hL
      have gl : ∀ (j : Nat) (cc : Nat), (turnedOf fir).cps[j]? = some cc → (lettersOf way fir)[j]? = some (pre way ++ ⟨#[cc]⟩) := fun j cc e => by
        unfold lettersOf
        rw [List.getElem?_map, Array.getElem?_toList, e]
        rfl
      have gll : (lettersOf way fir).length = 26 := by
        unfold lettersOf
        rw [List.length_map, Array.length_toList]
        exact tl2
      refine lc_same walk_str (fun i => match (lettersOf way fir)[i]? with | some x => .str x | none => .non) (fun _ => true) (by omega) hL (fun _ _ => trivial) (fun j x H5 H6 hj s5 y Q1 R1 q1 _ => ?_) fun H5 s5 hD1 => ?_
      · obtain ⟨rfl, cc, hc, rfl⟩ := y
        rw [gl j cc hc] at q1
        walk_at "rr"
        refine ⟨rfl, k_yes ?_⟩
        walk_at "rr"
        refine ⟨k_sz rfl, fun p1 hp1 => ?_⟩
        walk_at "rr"
        have at_ : atI [V.str "", V.str "longest"] ((way : Int) - 1) = some (.str (pre way)) := by
          have : way = 1 ∨ way = 2 := by omega
          rcases this with rfl | rfl <;> rfl
        have pl : (pre way).length ≤ 7 := by
          have : way = 1 ∨ way = 2 := by omega
          rcases this with rfl | rfl <;> decide
        refine k_ixqL (SqL.of upd_same) at_ ?_
        walk_at "rr"
        refine ⟨_, _, rfl, rfl, sz _ (by show (pre way).length + 1 ≤ 1000; omega), ?_⟩
        exact q1 rfl _ (Same.upd hp1)
      rw [range_all, tl2, ← gll, range_get (lettersOf way fir) _ V.str (fun k x e => by rw [e])] at hD1
      walk_at "rr"
      refine k_slL (SqL.of hD1) fun p4 hp4 => ?_
      rw [cut_map]
      walk_at "rr"
      exact done (cutL (lettersOf way fir) none (some (many : Int))) H5 p4 _ (D4.same s5) (by omega) (x4.trans (Same.ext s5)) hp4 (names_of (fine_l way (by omega) wp fir fir26 many (by omega)))
end
end K11

set_option Elab.async false
set_option maxRecDepth 100000
set_option maxHeartbeats 4000000
set_option linter.unusedVariables false
namespace K11
open PySem PySem.Spec PyProof.Rows L2 Own
-- steps
local macro_rules | `(tactic| walk_at "lk") => `(tactic| first
  | assumption | exact upd_same
  | ((with_reducible refine' lk_new ?e (by assumption)); (case e => walk_at "lk"))
  | ((with_reducible refine' lk_ext (by assumption) ?e); (case e => walk_at "lk"))
  | ((with_reducible refine' lk_same (by assumption) ?e); (case e => walk_at "lk")))
local macro_rules | `(tactic| walk_at "sq") => `(tactic| first | assumption | exact SqL.of (by walk_at "lk") | exact SqT.of (by walk_at "lk"))
local macro_rules | `(tactic| walk_at "r1") => `(tactic| first
  | with_reducible refine k_seq ?_ | with_reducible refine k_asg ?_ | with_reducible refine k_ret ?_ | with_reducible refine k_drop ?_ | with_reducible refine k_next ?_ | with_reducible refine k_ifS ?_
  | ((with_reducible refine' k_var ?e ?_); (case e => exact rfl)) | with_reducible refine k_c ?_ | with_reducible refine k_op ?_ | with_reducible refine k_un ?_ | with_reducible refine k_test ?_ | with_reducible refine k_B ?_
  | with_reducible refine k_and ?_ | with_reducible refine k_or ?_ | with_reducible refine k_not ?_ | with_reducible refine k_andV ?_ | with_reducible refine k_orV ?_ | with_reducible refine k_notV ?_ | with_reducible refine k_if ?_
  | with_reducible refine k_nil ?_ | with_reducible refine k_cons ?_ | with_reducible refine k_tup ?_ | with_reducible refine k_lst ?_ | with_reducible refine k_call ?_ | with_reducible refine k_cb ?_ | with_reducible refine k_ck ?_
  | with_reducible refine k_par ?_ | with_reducible refine k_par1 ?_ | with_reducible refine k_tr ?_ | with_reducible refine k_rI0 ?_ | with_reducible refine k_rU ?_
  | with_reducible refine k_gN ?_ | with_reducible refine k_gS ?_ | with_reducible refine k_gNil ?_ | with_reducible refine k_gCons ?_ | with_reducible refine k_bm0 ?_ | with_reducible refine k_bm ?_
  | with_reducible refine k_for ?_ | with_reducible refine k_iL ?_ | with_reducible refine k_iT ?_ | with_reducible refine k_iR1 ?_ | ((with_reducible refine k_iR1i ?e ?_); (case e => first | decide | exact ⟨by omega, by omega⟩))
  | with_reducible refine k_max ?_ | with_reducible refine k_isB ?_ | with_reducible refine k_sl ?_ | with_reducible refine k_noP ?_ | with_reducible refine k_part ?_ | with_reducible refine k_partI ?_ | with_reducible refine k_revL ?_
  | ((with_reducible refine' k_ixqT ?e ?f ?_); (case e => walk_at "sq"); (case f => first | exact rfl | exact atI_head))
  | ((with_reducible refine' k_ixqL ?e ?f ?_); (case e => walk_at "sq"); (case f => first | exact rfl | exact atI_head))
  | ((with_reducible refine' k_lenL ?e ?_); (case e => walk_at "sq"))
  | ((with_reducible refine' k_lenT ?e ?_); (case e => walk_at "sq"))
  | ((with_reducible refine' k_ixL ?e ?f ?_); (case e => walk_at "sq"); (case f => first | exact rfl | exact atI_head))
  | ((with_reducible refine' k_ixT ?e ?f ?_); (case e => walk_at "sq"); (case f => first | exact rfl | exact atI_head))
  | ((with_reducible refine k_eq ?e ?_); (case e => exact rfl)) | ((with_reducible refine k_ne ?e ?_); (case e => exact rfl))
  | ((with_reducible refine k_rI ?e ?_); (case e => first | assumption | omega | decide | exact ⟨by omega, by omega⟩ | exact .inl ⟨by omega, by omega⟩ | exact .inr ⟨by omega, by omega⟩)))
local macro_rules | `(tactic| walk_at "rd") => `(tactic| repeat walk_at "r1")
local macro_rules | `(tactic| walk_at "r2") => `(tactic| first
  | walk_at "r1"
  | with_reducible refine k_ifTt ?_ | with_reducible refine k_ifFf ?_ | with_reducible refine k_ifNt ?_ | with_reducible refine k_ifNf ?_
  | with_reducible refine k_makeR ?_ | with_reducible refine k_tJ ?_ | with_reducible refine k_tJc ?_ | with_reducible refine k_tJn ?_ | with_reducible refine k_fmt ?_ | with_reducible refine k_lc ?_ | with_reducible refine k_din ?_ | with_reducible refine k_fld ?_ | with_reducible refine k_dget ?_
  | with_reducible refine k_dput ?_
  | with_reducible refine k_isNv ?_
  | with_reducible refine k_notNv ?_
  | with_reducible refine k_str ?_
  | with_reducible refine k_enumT ?_
  | with_reducible refine k_zipA ?_
  | with_reducible refine k_chain ?_
  | ((with_reducible refine' k_dgS ?e dkv_cells ?_); (case e => walk_at "lk"))
  | ((with_reducible refine' k_dgS ?e dkv_mixed ?_); (case e => walk_at "lk"))
  | ((with_reducible refine' k_dgS ?e dkv_turn ?_); (case e => walk_at "lk")))
local macro_rules | `(tactic| walk_at "rr") => `(tactic| repeat walk_at "r2")
-- steps end
theorem cr_sortedSK {X : Cx} {K : PySem.W.Frag} (h : X.K = K) : CallR X (.builtin "sorted") (rSortedS K) := h ▸ cr_sortedS
section
variable {P : Program} {w : World} {K : PySem.W.Frag} {mg : Str → Option Value} {g0 : Heap}
abbrev s_table : Stmt := top 73
theorem sc_table : FnScope ["_law_deck_here", "_law_name", "_law_may_have_keys", "_law_columns", "_law_marked", "_law_turn", "_law_one"] ["_law_deck_here", "_law_name", "_law_may_have_keys"] (defScope s_table) :=
  ⟨rfl, rfl, rfl, by decide +kernel, rfl, by decide +kernel, by decide +kernel⟩
abbrev s_tables : Stmt := top 74
theorem sc_tables : FnScope ["_law_deck_here", "_law_names_here", "_law_k"] ["_law_deck_here"] (defScope s_tables) :=
  ⟨rfl, rfl, rfl, by decide +kernel, rfl, by decide +kernel, by decide +kernel⟩
def spTableL : Sp := fun vs H Q _ => ∃ (d c : Addr) (b : Int) (nm : Str) (may : Bool), vs = [.ref d, .str nm, .bl may] ∧ DeckE d c b H ∧ b ≤ 900000 ∧ isNameB nm = true ∧
  ∀ (a : Addr) (t : T) (H' : Hp), t.nm = nm → t.Ok → (may = false → t.ks = []) → TAt H' a t → DeckE d c (b + 30) H' → Ext (Dk d c) H H' → Q (.ref a) H'
theorem ok_tableL {f : Addr} {fd : FuncData} (F : Fun K "_law_table" "_law_table" s_table f fd) (z_range : mg "range" = none) (z_tuple : mg "tuple" = none) (z_sorted : mg "sorted" = none) (z_int : mg "int" = none)
    (C_draw : Cal P w K mg g0 "_law_draw" 1 ["_law_deck_here", "_law_bound"] spDraw) (C_names : Cal P w K mg g0 "_law_names" 2 ["_law_deck_here", "_law_many"] spNames) : GOk P w K mg g0 CX0 3 f fd ["_law_deck_here", "_law_name", "_law_may_have_keys"] spTableL := by
  have nd := sc_table.nd
  refine okG F sc_table (fun vs H Q E h => ?_) (fun cdv A up s H vs Q E qt hr h => ?_)
  · obtain ⟨d, c, b, nm, may, rfl, _⟩ := h
    rfl
  · obtain ⟨d, c, b, nm, may, rfl, D, hb, hn, k⟩ := h
    refine ⟨_, (pss_cons (ps_set (i := 3) nd rfl (Or.inr rfl) (pe_c C_names qt (hr.mono (by decide)) (pa_cons (pv 0) (pa_cons (pe_op op_add pe_int (pe_c C_draw qt (hr.mono (by decide)) (pa_cons (pv 0) (pa_cons pe_int pa_nil)))) pa_nil))))
        (pss_cons (ps_setLc (i := 4) (own := [("_law_turn", 5)]) (g := (gName 5)) (tt := tYes) (te := (tCB (rSortedS K) (tCons (tLc (iList K (tVar 3)) (gName 6) (tTest (tOp rEq (tCall spDraw [] E0 (tCons (tVar 0) (tCons (tC (.int 3)) tNil))) (tC (.int 0)))) (tVar 6) [6]) tNil))) (by rfl) nd rfl rfl (sw_true rfl rfl rfl (by decide +kernel)) (pi_range1 (by rfl) z_range (pa_cons pe_int pa_nil)) (blkOk_by (own := [("_law_turn", 5)]) (N := ["_law_deck_here", "_law_name", "_law_may_have_keys", "_law_columns", "_law_marked", "_law_turn", "_law_one"]) (sc := defScope s_table) (by decide +kernel)) (fun _ _ _ _ _ => by exact (pg_name (i := 5) nd rfl (Or.inl rfl))) (fun _ _ _ _ _ => by exact pts_nil) (fun _ _ _ _ _ => by exact (pe_callB (cr_sortedSK (K := K) rfl) (by rfl) z_sorted (by decide +kernel) (pa_cons (by refine pe_lc (own := [("_law_one", 6)]) (g := (gName 6)) (tt := (tTest (tOp rEq (tCall spDraw [] E0 (tCons (tVar 0) (tCons (tC (.int 3)) tNil))) (tC (.int 0))))) (te := (tVar 6)) (by rfl) nd ?_ ?_ ?_ ?_ ?_; exact (pi_list (pv 3)); refine blkOk_by (own := [("_law_one", 6)]) (N := ["_law_deck_here", "_law_name", "_law_may_have_keys", "_law_columns", "_law_marked", "_law_turn", "_law_one"]) (sc := ({ kind := .function, names := [(".0", .local), ("_law_turn", .local), ("sorted", .globalImplicit), ("_law_columns", .cell), ("_law_deck_here", .cell)], isGenerator := false, isCoroutine := false } : Scope)) ?_; decide +kernel; exact fun _ _ _ _ _ => (by exact (pg_name (i := 6) nd rfl (Or.inl rfl))); exact fun _ _ _ _ _ => (by exact (pts_one (pt_cmpR op_eq (pe_c C_draw qt (hr.mono (by decide)) (pa_cons (pv 0) (pa_cons pe_int pa_nil))) pe_int (nomark _)))); exact fun _ _ _ _ _ => (by exact (pv 6))) pa_nil))))
        (pss_one (ps_ret (pe_tup (pa_cons (pv 1) (pa_cons (pe_callTy call_tuple_of (by rfl) z_tuple (by decide +kernel) (pa_cons (pv 3) pa_nil)) (pa_cons (pe_callTy call_tuple_of (by rfl) z_tuple (by decide +kernel) (pa_cons (pe_ix ix_seq (pv 4) pe_int (fun _ _ => rfl)) pa_nil)) (pa_cons (pe_callTy call_tuple_of (by rfl) z_tuple (by decide +kernel) (pa_cons (pe_slice sl_list (pe_ix ix_seq (pv 4) pe_int (fun _ _ => rfl)) po_none (po_some (pe_op op_mul pe_int (pe_callTy call_int1 (by rfl) z_int (by decide +kernel) (pa_cons (pv 2) pa_nil))))) pa_nil)) pa_nil))))))))), ?_⟩
    walk_at "rr"
    refine ⟨d, c, b, 3, rfl, D, by omega, by decide, by decide, fun r H1 r0 r1 D1 x1 => ?_⟩
    obtain ⟨r, rfl⟩ := Int.eq_ofNat_of_zero_le r0
    walk_at "rr"
    refine ⟨d, c, b + 1, 1 + r, by simp, D1, by omega, by omega, fun l cs H2 hcs D2 x2 hl nl hf => ?_⟩
    have x12 := x1.trans x2
    have fl : H l = none := ext_free x1 nl hf
    have l1 : 1 ≤ cs.length := by rw [hcs.len]; omega
    have l3 : cs.length ≤ 3 := by rw [hcs.len]; omega
    walk_at "rr"
    refine ⟨2, rfl, by decide, by decide, fun M hM => ?_⟩
    have Mn : ¬ Dk d c M := D2.off hM
    have Mf : H M = none := ext_free x12 Mn hM
    have lM : l ≠ M := (ne_of_none hl hM)
    refine lc_range (lo := 0) (n := 2) (fun i H' => ∃ ms : List (Addr × List Str), H' M = some (.lst (ms.map fun m => V.ref m.1)) ∧ ms.length = i ∧ (∀ m ∈ ms, H' m.1 = some (.lst (m.2.map V.str)) ∧ (∀ z ∈ m.2, z ∈ cs) ∧ m.2.Pairwise sLt ∧ ¬ Dk d c m.1 ∧ m.1 ≠ M) ∧ StrsAt H' l cs ∧ DeckE d c (b + 12 + 4 * i) H' ∧ Ext (Dk d c) H H')
      ⟨[], upd_same, rfl, (fun _ z => by cases z), (upd_ne lM).trans hl, (D2.new hM).mono (by omega), ext_off x12 Mf⟩ (fun i H' hi h => ?_) (fun H' h => ?_)
    · obtain ⟨ms, hMs, lms, am, hl3, D3, x3⟩ := h
      walk_at "rr"
      refine ⟨rfl, k_yes ?_⟩
      walk_at "rr"
      refine ⟨l, rfl, ⟨_, SqL.of hl3⟩, fun G hG => ?_⟩
      have Gn : ¬ Dk d c G := D3.off hG
      have GM : M ≠ G := ne_of_none hMs hG
      refine lc_it (walk_list (xs := cs.map V.str)) (fun j H4 => ∃ gs : List Str, H4 G = some (.lst (gs.map V.str)) ∧ gs.Sublist (cs.take j) ∧ DeckE d c (b + 12 + 4 * i + j) H4 ∧ Ext (Dk d c) H' H4)
        ⟨[], upd_same, List.nil_sublist _, by simpa using D3.new hG, ext_new hG⟩ (fun j H4 _ h => ?_) (fun j x H4 H5 hj h y => ?_) fun H4 h => ?_
      · obtain ⟨_, _, _, _, x4⟩ := h
        exact SqL.of (x4.2 _ _ nl hl3)
      · obtain ⟨gs, hGs, sb, D4, x4⟩ := h
        obtain ⟨rfl, y⟩ := y
        have e : (cs.map V.str)[j]? = some x := y
        rw [List.getElem?_map] at e
        obtain ⟨z, hz, rfl⟩ := Option.map_eq_some_iff.mp e
        have hj3 : j < cs.length := (List.getElem?_eq_some_iff.mp hz).1
        have lg : gs.length ≤ 3 := by
          have := sb.length_le
          rw [List.length_take] at this
          omega
        have tk : cs.take (j + 1) = cs.take j ++ [z] := by
          rw [List.take_add_one, hz]
          rfl
        walk_at "rr"
        refine ⟨rfl, ?_⟩
        walk_at "rr"
        refine ⟨d, c, _, 3, rfl, D4, by omega, by decide, by decide, fun r3 H6 r30 r31 D6 x6 => ?_⟩
        have hG6 := x6.2 _ _ Gn hGs
        walk_at "rr"
        refine k_iteD (fun _ => ?_) fun _ => ?_
        · walk_at "rr"
          refine ⟨_, hG6, k_szL (by rw [List.length_map]; omega), gs ++ [z], by rw [upd_same, List.map_append]; rfl, ?_, (D6.offL Gn).mono (by omega), ?_⟩
          · rw [tk]
            exact List.Sublist.append sb (List.Sublist.refl _)
          · exact ext_off (x4.trans x6) hG
        · exact ⟨gs, hG6, by rw [tk]; exact sb.trans (List.sublist_append_left _ _), D6.mono (by omega), x4.trans x6⟩
      · obtain ⟨gs, hGs, sb, D4, x4⟩ := h
        rw [List.length_map, List.take_length] at sb
        rw [List.length_map] at D4
        walk_at "rr"
        have x4' : Ext (Dk d c) H' H4 := x4
        refine ⟨G, gs, rfl, SqL.of hGs, by have := sb.length_le; omega, fun ys q pm hs hq => ?_⟩
        walk_at "rr"
        have hM4 := Same.upd (o := .lst (ys.map V.str)) hq _ _ (x4'.2 _ _ Mn hMs)
        have qM : q ≠ M := fun z => by
          rw [z, x4'.2 _ _ Mn hMs] at hq
          cases hq
        have qn : ¬ Dk d c q := D4.off hq
        refine ⟨_, hM4, k_szL (by rw [List.length_map]; omega), ms ++ [(q, ys)], by rw [upd_same, List.map_append]; rfl, by rw [List.length_append, lms]; rfl, fun m hm => ?_, ?_, ?_, ?_⟩
        · rcases List.mem_append.mp hm with hm | hm
          · obtain ⟨c1, c2, c3, c4, c5⟩ := am m hm
            exact ⟨(upd_ne c5).trans (Same.upd hq _ _ (x4'.2 _ _ c4 c1)), c2, c3, c4, c5⟩
          · obtain rfl := List.mem_singleton.mp hm
            refine ⟨(upd_ne qM).trans upd_same, fun z hz => sb.subset (pm.mem_iff.mp hz), ?_, qn, qM⟩
            exact ris2 hs (pm.nodup_iff.mpr (hcs.nd.sublist sb))
        · exact (upd_ne lM).trans (Same.upd hq _ _ (x4'.2 _ _ nl hl3))
        · exact ((D4.new hq).offL Mn).mono (by omega)
        · exact ext_off ((x3.trans x4').trans (ext_new hq)) Mf
    · obtain ⟨ms, hMs, lms, am, hl3, D3, x3⟩ := h
      walk_at "rr"
      refine ⟨l, _, rfl, .inl ⟨SqL.of hl3, fun g hg => ?_⟩⟩
      match ms, lms, hMs, am with
      | [m1, m2], _, hMs, am =>
        have hM1 : (upd H' g (.tup (cs.map V.str))) M = some (.lst [V.ref m1.1, V.ref m2.1]) := Same.upd hg _ _ hMs
        have g5 : (upd H' g (.tup (cs.map V.str))) g = some (.tup (cs.map V.str)) := upd_same
        obtain ⟨a1, b1, b2, _⟩ := am m1 (by simp)
        obtain ⟨a2, b3, b4, _⟩ := am m2 (by simp)
        have a1' := Same.upd (o := .tup (cs.map V.str)) hg _ _ a1
        have a2' := Same.upd (o := .tup (cs.map V.str)) hg _ _ a2
        have D6 := D3.new (o := .tup (cs.map V.str)) hg
        have x6 := x3.trans (ext_new (o := .tup (cs.map V.str)) hg)
        generalize upd H' g (.tup (cs.map V.str)) = H6 at hM1 g5 a1' a2' D6 x6 ⊢
        walk_at "rr"
        refine ⟨m1.1, _, rfl, .inl ⟨SqL.of a1', fun g1 hg1 => ?_⟩⟩
        have hM2 := Same.upd (o := .tup (m1.2.map V.str)) hg1 _ _ hM1
        have g52 := Same.upd (o := .tup (m1.2.map V.str)) hg1 _ _ g5
        have g12 : (upd H6 g1 (.tup (m1.2.map V.str))) g1 = some (.tup (m1.2.map V.str)) := upd_same
        have a22 := Same.upd (o := .tup (m1.2.map V.str)) hg1 _ _ a2'
        have D7 := D6.new (o := .tup (m1.2.map V.str)) hg1
        have x7 := x6.trans (ext_new (o := .tup (m1.2.map V.str)) hg1)
        generalize upd H6 g1 (.tup (m1.2.map V.str)) = H7 at hM2 g52 g12 a22 D7 x7 ⊢
        walk_at "rr"
        have fin : ∀ (n : Int), (may = false → n = 0) → ∀ (H8 : Hp) (p5 : Addr), H7 p5 = none → H8 = upd H7 p5 (.lst ((cutL m2.2 none (some n)).map V.str)) → ∀ g2, H8 g2 = none → ∀ a, upd H8 g2 (.tup ((cutL m2.2 none (some n)).map V.str)) a = none →
            Q (.ref a) (upd (upd H8 g2 (.tup ((cutL m2.2 none (some n)).map V.str))) a (.tup [.str nm, .ref g, .ref g1, .ref g2])) := fun n hn0 H8 p5 hp5 e g2 hg2 a ha => by
          subst e
          have sub : (cutL m2.2 none (some n)).Sublist m2.2 := (List.take_sublist _ _).trans (List.drop_sublist _ _)
          refine k a ⟨nm, cs, m1.2, cutL m2.2 none (some n)⟩ _ rfl ⟨hn, l1, l3, hcs.nm, hcs.nd, b1, b2, fun z hz => b3 z (sub.subset hz), b4.sublist sub⟩ (fun z => ?_) ⟨g, g1, g2, upd_same, ?_, ?_, ?_⟩ ((((D7.new hp5).new hg2).new ha).mono (by omega)) (((x7.trans (ext_new hp5)).trans (ext_new hg2)).trans (ext_new ha))
          · rw [hn0 z]
            simp [cutL, HT.sIx]
          · exact Same.upd ha _ _ (Same.upd hg2 _ _ (Same.upd hp5 _ _ g52))
          · exact Same.upd ha _ _ (Same.upd hg2 _ _ (Same.upd hp5 _ _ g12))
          · exact Same.upd ha _ _ upd_same
        cases may with
        | true =>
          refine .inr ⟨_, rfl, ?_⟩
          walk_at "rr"
          refine k_slL (SqL.of a22) fun p5 hp5 => ?_
          rw [cut_map]
          walk_at "rr"
          refine ⟨p5, _, rfl, .inl ⟨SqL.of upd_same, fun g2 hg2 => ?_⟩⟩
          walk_at "rr"
          refine ⟨k_sz rfl, fun a ha => ?_⟩
          exact fin _ (fun z => by cases z) _ p5 hp5 rfl g2 hg2 a ha
        | false =>
          refine .inr ⟨_, rfl, ?_⟩
          walk_at "rr"
          refine k_slL (SqL.of a22) fun p5 hp5 => ?_
          rw [cut_map]
          walk_at "rr"
          refine ⟨p5, _, rfl, .inl ⟨SqL.of upd_same, fun g2 hg2 => ?_⟩⟩
          walk_at "rr"
          refine ⟨k_sz rfl, fun a ha => ?_⟩
          exact fin _ (fun z => rfl) _ p5 hp5 rfl g2 hg2 a ha
end
end K11

set_option Elab.async false
set_option maxRecDepth 100000
set_option linter.unusedVariables false
/-! data of tuples, texts, whole numbers and None, as it lies -/
namespace Own
open PySem PySem.Spec PyProof.Rows L2
mutual
inductive DT (H : Hp) : V → PyData → Prop
  | non : DT H .non .none
  | int (i : Int) : DT H (.int i) (.int i)
  | str (z : Str) : DT H (.str z) (.str z)
  | tup {a : Addr} {xs : List V} {ds : List PyData} : H a = some (.tup xs) → DTs H xs ds → DT H (.ref a) (.tuple ds)
inductive DTs (H : Hp) : List V → List PyData → Prop
  | nil : DTs H [] []
  | cons {v : V} {vs : List V} {d : PyData} {ds : List PyData} : DT H v d → DTs H vs ds → DTs H (v :: vs) (d :: ds)
end
section
variable {H H' : Hp}
mutual
theorem DT.keep (x : Tups H H') : ∀ {d : PyData} {v : V}, DT H v d → DT H' v d
  | _, _, .non => .non
  | _, _, .int i => .int i
  | _, _, .str z => .str z
  | _, _, .tup h hs => .tup (x _ _ h) (DTs.keep x hs)
theorem DTs.keep (x : Tups H H') : ∀ {ds : List PyData} {vs : List V}, DTs H vs ds → DTs H' vs ds
  | _, _, .nil => .nil
  | _, _, .cons a b => .cons (a.keep x) (DTs.keep x b)
end
mutual
theorem DT.dp {K : PySem.W.Frag} : ∀ {d : PyData} {v : V}, DT H v d → Dp K H v d
  | _, _, .non => .non
  | _, _, .int i => .int i
  | _, _, .str z => .str z
  | _, _, .tup h hs => .tup (SqT.of h) (DTs.dp hs)
theorem DTs.dp {K : PySem.W.Frag} : ∀ {ds : List PyData} {vs : List V}, DTs H vs ds → DpAll K H vs ds
  | _, _, .nil => .nil
  | _, _, .cons a b => .cons a.dp (DTs.dp b)
end
theorem DT.unT {v : V} {ds : List PyData} (h : DT H v (.tuple ds)) : ∃ a xs, v = .ref a ∧ H a = some (.tup xs) ∧ DTs H xs ds := by
  cases h with
  | tup h hs => exact ⟨_, _, rfl, h, hs⟩
theorem DT.unS {v : V} {z : Str} (h : DT H v (.str z)) : v = .str z := by
  cases h
  rfl
theorem DT.unI {v : V} {i : Int} (h : DT H v (.int i)) : v = .int i := by
  cases h
  rfl
theorem DT.unN {v : V} (h : DT H v .none) : v = .non := by
  cases h
  rfl
theorem DTs.len : ∀ {vs : List V} {ds : List PyData}, DTs H vs ds → vs.length = ds.length
  | _, _, .nil => rfl
  | _, _, .cons _ b => congrArg (· + 1) (DTs.len b)
theorem DTs.mem : ∀ {vs : List V} {ds : List PyData}, DTs H vs ds → ∀ {v : V}, v ∈ vs → ∃ d ∈ ds, DT H v d
  | _, _, .cons a b, v, hv => by
    rcases List.mem_cons.mp hv with rfl | hv
    · exact ⟨_, List.mem_cons_self, a⟩
    · obtain ⟨d, hd, h⟩ := DTs.mem b hv
      exact ⟨d, List.mem_cons_of_mem _ hd, h⟩
theorem DTs.at_ : ∀ {vs : List V} {ds : List PyData}, DTs H vs ds → ∀ {i : Nat} {v : V}, vs[i]? = some v → ∃ d, ds[i]? = some d ∧ DT H v d
  | _, _, .nil, i, v, h => by simp at h
  | _, _, .cons a b, 0, v, h => by
    simp at h
    subst h
    exact ⟨_, rfl, a⟩
  | _, _, .cons a b, i + 1, v, h => by
    obtain ⟨d, h1, h2⟩ := DTs.at_ b (i := i) (by simpa using h)
    exact ⟨d, by simpa using h1, h2⟩
theorem DTs.app : ∀ {vs ws : List V} {ds es : List PyData}, DTs H vs ds → DTs H ws es → DTs H (vs ++ ws) (ds ++ es)
  | _, _, _, _, .nil, h => h
  | _, _, _, _, .cons a b, h => .cons a (DTs.app b h)
theorem DTs.strs : ∀ zs : List Str, DTs H (zs.map V.str) (zs.map PyData.str)
  | [] => .nil
  | z :: zs => .cons (.str z) (DTs.strs zs)
theorem DTs.drop : ∀ {vs : List V} {ds : List PyData} (n : Nat), DTs H vs ds → DTs H (vs.drop n) (ds.drop n)
  | _, _, 0, h => h
  | _, _, n + 1, .nil => .nil
  | _, _, n + 1, .cons _ b => DTs.drop n b
theorem DTs.take : ∀ {vs : List V} {ds : List PyData} (n : Nat), DTs H vs ds → DTs H (vs.take n) (ds.take n)
  | _, _, 0, h => .nil
  | _, _, n + 1, .nil => .nil
  | _, _, n + 1, .cons a b => .cons a (DTs.take n b)
end
section
variable {X : Cx}
/-- x in t, t a tuple of data -/
def rInDT (K : PySem.W.Frag) : R2 := fun x y H Q => ∃ d ds, Dp K H x d ∧ Dp K H y (.tuple ds) ∧ SeqAt.shaped d = true ∧ SeqAt.shaped (.tuple ds) = true ∧ Q (.bl (ds.any fun z => PyData.eqv z d)) H
theorem op_inDT {K : PySem.W.Frag} (e : X.K = K) (hu : X.A.units + 65 < cLine) : OpR X (compareOp .In) (rInDT K) := by
  subst e
  intro pins s σ H x y v u Q I rx ry h
  obtain ⟨d, ds, hd, he, sd, se, q⟩ := h
  obtain ⟨as, r1⟩ := Dp.reads I d x v hd rx
  obtain ⟨bs, r2⟩ := Dp.reads I (.tuple ds) y u he ry
  exact SeqAt.in_tuple_reads r2 r1 (SeqAt.canLay_of_shaped se) (SeqAt.canLay_of_shaped sd) (room_in_shaped sd hu) ⟨.bl _, H, I, rfl, q⟩
end
end Own

set_option Elab.async false
set_option maxRecDepth 100000
set_option maxHeartbeats 4000000
set_option linter.unusedVariables false
namespace K11
open PySem PySem.Spec PyProof.Rows L2 Own
-- steps
local macro_rules | `(tactic| walk_at "lk") => `(tactic| first
  | assumption | exact upd_same
  | ((with_reducible refine' lk_new ?e (by assumption)); (case e => walk_at "lk"))
  | ((with_reducible refine' lk_ext (by assumption) ?e); (case e => walk_at "lk"))
  | ((with_reducible refine' lk_same (by assumption) ?e); (case e => walk_at "lk")))
local macro_rules | `(tactic| walk_at "sq") => `(tactic| first | assumption | exact SqL.of (by walk_at "lk") | exact SqT.of (by walk_at "lk"))
local macro_rules | `(tactic| walk_at "r1") => `(tactic| first
  | with_reducible refine k_seq ?_ | with_reducible refine k_asg ?_ | with_reducible refine k_ret ?_ | with_reducible refine k_drop ?_ | with_reducible refine k_next ?_ | with_reducible refine k_ifS ?_
  | ((with_reducible refine' k_var ?e ?_); (case e => exact rfl)) | with_reducible refine k_c ?_ | with_reducible refine k_op ?_ | with_reducible refine k_un ?_ | with_reducible refine k_test ?_ | with_reducible refine k_B ?_
  | with_reducible refine k_and ?_ | with_reducible refine k_or ?_ | with_reducible refine k_not ?_ | with_reducible refine k_andV ?_ | with_reducible refine k_orV ?_ | with_reducible refine k_notV ?_ | with_reducible refine k_if ?_
  | with_reducible refine k_nil ?_ | with_reducible refine k_cons ?_ | with_reducible refine k_tup ?_ | with_reducible refine k_lst ?_ | with_reducible refine k_call ?_ | with_reducible refine k_cb ?_ | with_reducible refine k_ck ?_
  | with_reducible refine k_par ?_ | with_reducible refine k_par1 ?_ | with_reducible refine k_tr ?_ | with_reducible refine k_rI0 ?_ | with_reducible refine k_rU ?_
  | with_reducible refine k_gN ?_ | with_reducible refine k_gS ?_ | with_reducible refine k_gNil ?_ | with_reducible refine k_gCons ?_ | with_reducible refine k_bm0 ?_ | with_reducible refine k_bm ?_
  | with_reducible refine k_for ?_ | with_reducible refine k_iL ?_ | with_reducible refine k_iT ?_ | with_reducible refine k_iR1 ?_ | ((with_reducible refine k_iR1i ?e ?_); (case e => first | decide | exact ⟨by omega, by omega⟩))
  | with_reducible refine k_max ?_ | with_reducible refine k_isB ?_ | with_reducible refine k_sl ?_ | with_reducible refine k_noP ?_ | with_reducible refine k_part ?_ | with_reducible refine k_partI ?_ | with_reducible refine k_revL ?_
  | ((with_reducible refine' k_ixqT ?e ?f ?_); (case e => walk_at "sq"); (case f => first | exact rfl | exact atI_head))
  | ((with_reducible refine' k_ixqL ?e ?f ?_); (case e => walk_at "sq"); (case f => first | exact rfl | exact atI_head))
  | ((with_reducible refine' k_lenL ?e ?_); (case e => walk_at "sq"))
  | ((with_reducible refine' k_lenT ?e ?_); (case e => walk_at "sq"))
  | ((with_reducible refine' k_ixL ?e ?f ?_); (case e => walk_at "sq"); (case f => first | exact rfl | exact atI_head))
  | ((with_reducible refine' k_ixT ?e ?f ?_); (case e => walk_at "sq"); (case f => first | exact rfl | exact atI_head))
  | ((with_reducible refine k_eq ?e ?_); (case e => exact rfl)) | ((with_reducible refine k_ne ?e ?_); (case e => exact rfl))
  | ((with_reducible refine k_rI ?e ?_); (case e => first | assumption | omega | decide | exact ⟨by omega, by omega⟩ | exact .inl ⟨by omega, by omega⟩ | exact .inr ⟨by omega, by omega⟩)))
local macro_rules | `(tactic| walk_at "rd") => `(tactic| repeat walk_at "r1")
local macro_rules | `(tactic| walk_at "r2") => `(tactic| first
  | walk_at "r1"
  | with_reducible refine k_ifTt ?_ | with_reducible refine k_ifFf ?_ | with_reducible refine k_ifNt ?_ | with_reducible refine k_ifNf ?_
  | with_reducible refine k_makeR ?_ | with_reducible refine k_tJ ?_ | with_reducible refine k_tJc ?_ | with_reducible refine k_tJn ?_ | with_reducible refine k_fmt ?_ | with_reducible refine k_lc ?_ | with_reducible refine k_din ?_ | with_reducible refine k_fld ?_ | with_reducible refine k_dget ?_
  | with_reducible refine k_dput ?_
  | with_reducible refine k_isNv ?_
  | with_reducible refine k_notNv ?_
  | with_reducible refine k_str ?_
  | with_reducible refine k_enumT ?_
  | with_reducible refine k_zipA ?_
  | with_reducible refine k_chain ?_
  | ((with_reducible refine' k_dgS ?e dkv_cells ?_); (case e => walk_at "lk"))
  | ((with_reducible refine' k_dgS ?e dkv_mixed ?_); (case e => walk_at "lk"))
  | ((with_reducible refine' k_dgS ?e dkv_turn ?_); (case e => walk_at "lk")))
local macro_rules | `(tactic| walk_at "rr") => `(tactic| repeat walk_at "r2")
-- steps end
theorem TAt.ext {M : Addr → Prop} {H H' : Hp} {a : Addr} {t : T} (h : TAt H a t) (s : Ext M H H') : TAt H' a t := by
  obtain ⟨c, i, k, h1, h2, h3, h4⟩ := h
  exact ⟨c, i, k, s.1 _ _ h1, s.1 _ _ h2, s.1 _ _ h3, s.1 _ _ h4⟩
/-- tables at hand -/
structure Tabs (ts : List AT) (H : Hp) : Prop where
  at_ : ∀ x ∈ ts, TAt H x.1 x.2
  ok : ∀ x ∈ ts, x.2.Ok
  nd : (namesOf ts).Nodup
theorem Tabs.ext {M : Addr → Prop} {ts : List AT} {H H' : Hp} (h : Tabs ts H) (s : Ext M H H') : Tabs ts H' := ⟨fun x hx => (h.at_ x hx).ext s, h.ok, h.nd⟩
/-! ### statements as data -/
abbrev Use := Str × Str
def useD (u : Use) : PyData := .tuple [.str u.1, .str u.2]
def optU : Option Use → PyData | none => .none | some u => useD u
def optS : Option Str → PyData | none => .none | some z => .str z
structure Cond where
  x : Use
  op : Str
  y : Option Use
  k : Int
def Cond.d (c : Cond) : PyData := .tuple [useD c.x, .str c.op, optU c.y, .int c.k]
structure Cmp where
  col : Str
  op : Str
  other : Option Str
  k : Int
def Cmp.d (c : Cmp) : PyData := .tuple [.str c.col, .str c.op, optS c.other, .int c.k]
structure Prb where
  word : Str
  tb : Str
  own : List Cmp
  col : Str
  op : Str
  use : Use
  k : Int
def Prb.d (p : Prb) : PyData := .tuple [.str p.word, .str p.tb, .tuple (p.own.map Cmp.d), .tuple [.str p.col, .str p.op, useD p.use, .int p.k]]
structure Stg where
  col : Str
  src : Option Use
  k : Int
def Stg.d (s : Stg) : PyData := .tuple [.str s.col, optU s.src, .int s.k]
structure Pt where
  kind : Str
  tb : Str
  refs : List Use
  conds : List Cond
  probes : List Prb
  sets : List Stg
  told : List Use
def Pt.d (p : Pt) : PyData := .tuple [.str p.kind, .str p.tb, .tuple (p.refs.map useD), .tuple (p.conds.map Cond.d), .tuple (p.probes.map Prb.d), .tuple (p.sets.map Stg.d), .tuple (p.told.map useD)]
abbrev Sml (k : Int) : Prop := -1000000000 ≤ k ∧ k ≤ 1000000000
section
variable {P : Program} {w : World} {K : PySem.W.Frag} {mg : Str → Option Value} {g0 : Heap}
abbrev s_integer : Stmt := top 75
theorem sc_integer : FnScope ["_law_deck_here", "_law_near", "_law_far"] ["_law_deck_here"] (defScope s_integer) :=
  ⟨rfl, rfl, rfl, by decide +kernel, rfl, by decide +kernel, by decide +kernel⟩
abbrev s_condition : Stmt := top 76
theorem sc_condition : FnScope ["_law_deck_here", "_law_uses_here", "_law_x", "_law_op", "_law_y"] ["_law_deck_here", "_law_uses_here"] (defScope s_condition) :=
  ⟨rfl, rfl, rfl, by decide +kernel, rfl, by decide +kernel, by decide +kernel⟩
def spTablesL : Sp := fun vs H Q _ => ∃ (d c : Addr) (b : Int), vs = [.ref d] ∧ DeckE d c b H ∧ b ≤ 800000 ∧
  ∀ (l : Addr) (ts : List AT) (H' : Hp), ts.length = 4 → Tabs ts H' → (∀ i x, 2 ≤ i → ts[i]? = some x → x.2.ks = []) → H' l = some (.lst (refsOf ts)) → ¬ Dk d c l → H l = none → DeckE d c (b + 150) H' → Ext (Dk d c) H H' → Q (.ref l) H'
theorem ok_tablesL {f : Addr} {fd : FuncData} (F : Fun K "_law_tables" "_law_tables" s_tables f fd) (z_range : mg "range" = none)
    (C_names : Cal P w K mg g0 "_law_names" 2 ["_law_deck_here", "_law_many"] spNames) (C_table : Cal P w K mg g0 "_law_table" 3 ["_law_deck_here", "_law_name", "_law_may_have_keys"] spTableL) : GOk P w K mg g0 CX0 4 f fd ["_law_deck_here"] spTablesL := by
  have nd := sc_tables.nd
  refine okG F sc_tables (fun vs H Q E h => ?_) (fun cdv A up s H vs Q E qt hr h => ?_)
  · obtain ⟨d, c, b, rfl, _⟩ := h
    rfl
  · obtain ⟨d, c, b, rfl, D, hb, k⟩ := h
    refine ⟨_, (pss_cons (ps_set (i := 1) nd rfl (Or.inr rfl) (pe_c C_names qt (hr.mono (by decide)) (pa_cons (pv 0) (pa_cons pe_int pa_nil))))
        (pss_one (ps_ret (pe_lc (own := [("_law_k", 2)]) (g := (gName 2)) (tt := tYes) (te := (tCall _ [] E0 (tCons (tVar 0) (tCons (tOp _ (tVar 1) (tVar 2)) (tCons (tOp (rI0 fun i j => .bl (decide (i < j))) (tVar 2) (tC (.int 2))) tNil))))) (by rfl) nd (pi_range1 (by rfl) z_range (pa_cons pe_int pa_nil)) (blkOk_by (own := [("_law_k", 2)]) (N := ["_law_deck_here", "_law_names_here", "_law_k"]) (sc := defScope s_tables) (by decide +kernel)) (fun _ _ _ _ _ => by exact (pg_name (i := 2) nd rfl (Or.inl rfl))) (fun _ _ _ _ _ => by exact pts_nil) (fun _ _ _ _ _ => by exact (pe_c C_table qt (hr.mono (by decide)) (pa_cons (pv 0) (pa_cons (pe_ix (ix_seqK (K := K) rfl) (pv 1) (pv 2) (fun _ _ => rfl)) (pa_cons (pe_cmpR op_lt (pv 2) pe_int (nomark _)) pa_nil))))))))), ?_⟩
    walk_at "rr"
    refine ⟨d, c, b, 4, rfl, D, by omega, by decide, fun ln zs H1 hz D1 x1 hln nln fln => ?_⟩
    walk_at "rr"
    refine ⟨4, rfl, by decide, by decide, fun D9 hD9 => ?_⟩
    have D9n : ¬ Dk d c D9 := D1.off hD9
    have D9f : H D9 = none := ext_free x1 D9n hD9
    have lz := hz.len
    refine lc_range (lo := 0) (n := 4) (fun i H' => ∃ ts : List AT, H' D9 = some (.lst (refsOf ts)) ∧ namesOf ts = zs.take i ∧ (∀ x ∈ ts, TAt H' x.1 x.2) ∧ (∀ x ∈ ts, x.2.Ok) ∧ (∀ j x, 2 ≤ j → ts[j]? = some x → x.2.ks = []) ∧ DeckE d c (b + 10 + 30 * i) H' ∧ Ext (Dk d c) H H' ∧ StrsAt H' ln zs)
      ⟨[], upd_same, rfl, (fun _ z => by cases z), (fun _ z => by cases z), (fun j x _ z => by simp at z), by simpa using D1.new hD9, x1.trans (ext_new hD9), Same.upd hD9 _ _ hln⟩ (fun i H8 hi h => ?_) fun H8 h => ?_
    · obtain ⟨ts, hD, hts, tat, tok, tks, D8, x8, hln8⟩ := h
      have hiz : i < zs.length := by omega
      have hz0 : zs[i]? = some zs[i] := List.getElem?_eq_getElem hiz
      have lt0 : ts.length = i := by
        have : (namesOf ts).length = (zs.take i).length := by rw [hts]
        unfold namesOf at this
        rw [List.length_map, List.length_take] at this
        omega
      walk_at "rr"
      refine ⟨rfl, k_yes ?_⟩
      walk_at "rr"
      have at_ : atI (zs.map V.str) (0 + (i : Int)) = some (.str zs[i]) := by
        rw [Int.zero_add]
        refine atI_nat ?_
        rw [List.getElem?_map, hz0]
        rfl
      refine k_ixqL (SqL.of hln8) at_ ?_
      walk_at "rr"
      refine ⟨d, c, _, zs[i], _, rfl, D8, by omega, hz.nm _ (List.getElem_mem hiz), fun a t H10 tn tk tnk ta D10 x10 => ?_⟩
      have hD10 := x10.2 _ _ D9n hD
      refine ⟨_, hD10, k_szL (by unfold refsOf; rw [List.length_map]; omega), ts ++ [(a, t)], ?_, ?_, ?_, ?_, ?_, (D10.offL D9n).mono (by omega), ext_off (x8.trans x10) D9f, ?_⟩
      · rw [upd_same]
        unfold refsOf
        rw [List.map_append]
        rfl
      · unfold namesOf at hts ⊢
        rw [List.map_append, hts, List.take_add_one, hz0]
        show _ ++ [t.nm] = _ ++ [zs[i]]
        rw [tn]
      · have sm : Tups H10 (upd H10 D9 (.lst (refsOf ts ++ [V.ref a]))) := tups_upd hD10 fun _ z => by cases z
        have up : ∀ {x : Addr} {u : T}, TAt H10 x u → TAt (upd H10 D9 (.lst (refsOf ts ++ [V.ref a]))) x u := fun {x u} h => by
          obtain ⟨c, i, k, h1, h2, h3, h4⟩ := h
          exact ⟨c, i, k, sm _ _ h1, sm _ _ h2, sm _ _ h3, sm _ _ h4⟩
        intro x hx
        rcases List.mem_append.mp hx with hx | hx
        · exact up ((tat x hx).ext x10)
        · obtain rfl := List.mem_singleton.mp hx
          exact up ta
      · intro x hx
        rcases List.mem_append.mp hx with hx | hx
        · exact tok x hx
        · obtain rfl := List.mem_singleton.mp hx
          exact tk
      · intro j x hj hx
        rcases Nat.lt_or_ge j ts.length with l | l
        · rw [List.getElem?_append_left l] at hx
          exact tks j x hj hx
        · rw [List.getElem?_append_right l] at hx
          have hj0 : j - ts.length = 0 := by
            rcases Nat.eq_zero_or_pos (j - ts.length) with z | z
            · exact z
            · rw [List.getElem?_eq_none (by show 1 ≤ _; exact z)] at hx
              cases hx
          rw [hj0] at hx
          cases hx
          exact tnk (decide_eq_false (by omega))
      · have nq : ln ≠ D9 := (ne_of_none hln hD9)
        exact (upd_ne nq).trans (x10.2 _ _ nln hln8)
    · obtain ⟨ts, hD, hts, tat, tok, tks, D8, x8, hln8⟩ := h
      have e4 : zs.take (4 : Nat) = zs := List.take_of_length_le (by omega)
      have lt0 : ts.length = 4 := by
        have : (namesOf ts).length = (zs.take 4).length := by rw [hts]
        unfold namesOf at this
        rw [List.length_map, List.length_take] at this
        omega
      walk_at "rr"
      exact k D9 ts H8 lt0 ⟨tat, tok, by rw [hts]; exact hz.nd.sublist (List.take_sublist _ _)⟩ tks hD D9n D9f (D8.mono (by omega)) x8
def spInteger : Sp := fun vs H Q _ => ∃ (d c : Addr) (b : Int), vs = [.ref d] ∧ DeckE d c b H ∧ b ≤ 990000 ∧ ∀ (i : Int) (H' : Hp), Sml i → DeckE d c (b + 5) H' → Ext (Dk d c) H H' → Q (.int i) H'
theorem ok_integer {f : Addr} {fd : FuncData} (F : Fun K "_law_integer" "_law_integer" s_integer f fd) (C_draw : Cal P w K mg g0 "_law_draw" 1 ["_law_deck_here", "_law_bound"] spDraw) : GOk P w K mg g0 CX0 2 f fd ["_law_deck_here"] spInteger := by
  have nd := sc_integer.nd
  refine okG F sc_integer (fun vs H Q E h => ?_) (fun cdv A up s H vs Q E qt hr h => ?_)
  · obtain ⟨d, c, b, rfl, _⟩ := h
    rfl
  · obtain ⟨d, c, b, rfl, D, hb, k⟩ := h
    refine ⟨_, (pss_cons (ps_par (i := 1) (j := 2) (by rfl) nd rfl rfl (by decide) rfl rfl (pa_cons (pe_op op_sub (pe_c C_draw qt (hr.mono (by decide)) (pa_cons (pv 0) (pa_cons pe_int pa_nil))) pe_int) (pa_cons (pe_ix ix_seq (pe_lst (pa_cons (pe_op op_pow pe_int pe_int) (pa_cons (pe_un un_neg (pe_op op_pow pe_int pe_int)) (pa_cons (pe_c C_draw qt (hr.mono (by decide)) (pa_cons (pv 0) (pa_cons (pe_op op_pow pe_int pe_int) pa_nil))) pa_nil)))) (pe_c C_draw qt (hr.mono (by decide)) (pa_cons (pv 0) (pa_cons pe_int pa_nil))) (fun _ _ => rfl)) pa_nil)) (by rfl))
        (pss_one (ps_ret (pe_ix ix_seq (pe_lst (pa_cons (pv 1) (pa_cons (pv 1) (pa_cons (pv 1) (pa_cons pe_int (pa_cons (pv 2) pa_nil)))))) (pe_c C_draw qt (hr.mono (by decide)) (pa_cons (pv 0) (pa_cons pe_int pa_nil))) (fun _ _ => rfl))))), ?_⟩
    walk_at "rr"
    refine ⟨d, c, b, 6, rfl, D, by omega, by decide, by decide, fun r H1 r0 r1 D1 x1 => ?_⟩
    walk_at "rr"
    refine ⟨d, c, _, _, rfl, D1, by omega, by decide, by decide, fun r2 H2 r20 r21 D2 x2 => ?_⟩
    walk_at "rr"
    refine ⟨k_sz rfl, fun l hl => ?_⟩
    have D3 := D2.new (o := .lst [.int (10 ^ Int.toNat 9), .int (-10 ^ Int.toNat 9), .int r2]) hl
    have x3 := (x1.trans x2).trans (ext_new (o := .lst [.int (10 ^ Int.toNat 9), .int (-10 ^ Int.toNat 9), .int r2]) hl)
    have n3 : ¬ Dk d c l := D2.off hl
    have h3 : upd H2 l (.lst [.int (10 ^ Int.toNat 9), .int (-10 ^ Int.toNat 9), .int r2]) l = some (.lst [.int (10 ^ Int.toNat 9), .int (-10 ^ Int.toNat 9), .int r2]) := upd_same
    generalize upd H2 l _ = H3 at D3 x3 h3 ⊢
    walk_at "rr"
    refine ⟨d, c, _, 3, rfl, D3, by omega, by decide, by decide, fun r3 H4 r30 r31 D4 x4 => ?_⟩
    have h4 := x4.2 _ _ n3 h3
    walk_at "rr"
    have e9 : (10 : Int) ^ Int.toNat 9 = 1000000000 := by decide
    obtain ⟨far, hfar, sfar⟩ : ∃ far, atI [V.int (10 ^ Int.toNat 9), V.int (-10 ^ Int.toNat 9), V.int r2] r3 = some (.int far) ∧ Sml far := by
      have : r3 = 0 ∨ r3 = 1 ∨ r3 = 2 := by omega
      rcases this with rfl | rfl | rfl
      · exact ⟨_, rfl, by decide⟩
      · exact ⟨_, rfl, by decide⟩
      · exact ⟨_, rfl, by omega, by omega⟩
    refine k_ixqL (SqL.of h4) hfar ?_
    walk_at "rr"
    refine ⟨k_sz rfl, fun l2 hl2 => ?_⟩
    have D5 := D4.new (o := .lst [.int (r - 2), .int (r - 2), .int (r - 2), .int 0, .int far]) hl2
    have x5 := (x3.trans x4).trans (ext_new (o := .lst [.int (r - 2), .int (r - 2), .int (r - 2), .int 0, .int far]) hl2)
    have n5 : ¬ Dk d c l2 := D4.off hl2
    have h5 : upd H4 l2 (.lst [.int (r - 2), .int (r - 2), .int (r - 2), .int 0, .int far]) l2 = some (.lst [.int (r - 2), .int (r - 2), .int (r - 2), .int 0, .int far]) := upd_same
    generalize upd H4 l2 _ = H5 at D5 x5 h5 ⊢
    walk_at "rr"
    refine ⟨d, c, _, 5, rfl, D5, by omega, by decide, by decide, fun r4 H6 r40 r41 D6 x6 => ?_⟩
    have h6 := x6.2 _ _ n5 h5
    walk_at "rr"
    obtain ⟨i, hi, si⟩ : ∃ i, atI [V.int (r - 2), V.int (r - 2), V.int (r - 2), V.int 0, V.int far] r4 = some (.int i) ∧ Sml i := by
      have : r4 = 0 ∨ r4 = 1 ∨ r4 = 2 ∨ r4 = 3 ∨ r4 = 4 := by omega
      rcases this with rfl | rfl | rfl | rfl | rfl
      · exact ⟨_, rfl, by omega, by omega⟩
      · exact ⟨_, rfl, by omega, by omega⟩
      · exact ⟨_, rfl, by omega, by omega⟩
      · exact ⟨_, rfl, by decide⟩
      · exact ⟨_, rfl, sfar⟩
    refine k_ixqL (SqL.of h6) hi ?_
    walk_at "rr"
    exact k i H6 si (D6.mono (by omega)) (x5.trans x6)
/-- a list of uses -/
def UsesAt (H : Hp) (l : Addr) (us : List Use) : Prop := ∃ vs, H l = some (.lst vs) ∧ DTs H vs (us.map useD)
theorem UsesAt.ext {M : Addr → Prop} {H H' : Hp} {l : Addr} {us : List Use} (h : UsesAt H l us) (x : Ext M H H') (n : ¬ M l) : UsesAt H' l us := let ⟨vs, h1, h2⟩ := h; ⟨vs, x.2 _ _ n h1, h2.keep x.1⟩
theorem pick_use {H : Hp} {vs : List V} {us : List Use} (h : DTs H vs (us.map useD)) {x : V} (hx : x ∈ vs) : ∃ u ∈ us, DT H x (useD u) := by
  obtain ⟨d, hd, h⟩ := h.mem hx
  obtain ⟨u, hu, rfl⟩ := List.mem_map.mp hd
  exact ⟨u, hu, h⟩
def Cond.In (c : Cond) (us : List Use) : Prop := c.x ∈ us ∧ (∀ y, c.y = some y → y ∈ us) ∧ c.op ∈ (["<=", "=", "!="] : List Str) ∧ Sml c.k
def spCondition : Sp := fun vs H Q _ => ∃ (d c l : Addr) (b : Int) (us : List Use), vs = [.ref d, .ref l] ∧ DeckE d c b H ∧ b ≤ 900000 ∧ UsesAt H l us ∧ ¬ Dk d c l ∧ us ≠ [] ∧ us.length ≤ 100 ∧
  ∀ (a : Addr) (cn : Cond) (H' : Hp), cn.In us → DT H' (.ref a) cn.d → DeckE d c (b + 12) H' → Ext (Dk d c) H H' → Q (.ref a) H'
theorem ok_condition {f : Addr} {fd : FuncData} (F : Fun K "_law_condition" "_law_condition" s_condition f fd) (C_draw : Cal P w K mg g0 "_law_draw" 1 ["_law_deck_here", "_law_bound"] spDraw)
    (C_pick : Cal P w K mg g0 "_law_pick" 2 ["_law_deck_here", "_law_some"] spPick) (C_integer : Cal P w K mg g0 "_law_integer" 2 ["_law_deck_here"] spInteger) : GOk P w K mg g0 CX0 3 f fd ["_law_deck_here", "_law_uses_here"] spCondition := by
  have nd := sc_condition.nd
  refine okG F sc_condition (fun vs H Q E h => ?_) (fun cdv A up s H vs Q E qt hr h => ?_)
  · obtain ⟨d, c, l, b, us, rfl, _⟩ := h
    rfl
  · obtain ⟨d, c, l, b, us, rfl, D, hb, hus, nl, ne, lus, k⟩ := h
    obtain ⟨vs, hl, hvs⟩ := hus
    have lvs : vs.length = us.length := by rw [hvs.len, List.length_map]
    have lpos : 0 < us.length := List.length_pos_iff.mpr ne
    refine ⟨_, (pss_cons (ps_par3 (i := 2) (j := 3) (l := 4) (by rfl) nd rfl rfl rfl (by decide) (by decide) (by decide) rfl rfl rfl (pa_cons (pe_c C_pick qt (hr.mono (by decide)) (pa_cons (pv 0) (pa_cons (pv 1) pa_nil))) (pa_cons (pe_c C_pick qt (hr.mono (by decide)) (pa_cons (pv 0) (pa_cons (pe_lst (pa_cons pe_str (pa_cons pe_str (pa_cons pe_str (pa_cons pe_str pa_nil))))) pa_nil))) (pa_cons (pe_c C_pick qt (hr.mono (by decide)) (pa_cons (pv 0) (pa_cons (pv 1) pa_nil))) pa_nil))) (by rfl))
        (pss_one (ps_ret (pe_tup (pa_cons (pv 2) (pa_cons (pv 3) (pa_cons (pe_ix ix_seq (pe_lst (pa_cons (pv 4) (pa_cons pe_non pa_nil))) (pe_c C_draw qt (hr.mono (by decide)) (pa_cons (pv 0) (pa_cons pe_int pa_nil))) (fun _ _ => rfl)) (pa_cons (pe_c C_integer qt (hr.mono (by decide)) (pa_cons (pv 0) pa_nil)) pa_nil)))))))), ?_⟩
    unfold tPar3
    walk_at "rr"
    refine ⟨d, c, l, b, vs, rfl, D, by omega, .inl ⟨hl, nl⟩, by omega, by omega, fun x1 H1 hx1 D1 e1 => ?_⟩
    have hl1 := e1.2 _ _ nl hl
    have hvs1 := hvs.keep e1.1
    obtain ⟨u1, m1, d1⟩ := pick_use hvs1 hx1
    walk_at "rr"
    refine ⟨k_sz rfl, fun l2 hl2 => ?_⟩
    have D2 := D1.new (o := .lst [.str "<=", .str "=", .str "!=", .str "<="]) hl2
    have n2 : ¬ Dk d c l2 := D1.off hl2
    have e2 := e1.trans (ext_new (M := Dk d c) (o := .lst [.str "<=", .str "=", .str "!=", .str "<="]) hl2)
    have g2 : upd H1 l2 (.lst [.str "<=", .str "=", .str "!=", .str "<="]) l2 = some (.lst [.str "<=", .str "=", .str "!=", .str "<="]) := upd_same
    have d12 := d1.keep (tups_new (o := .lst [.str "<=", .str "=", .str "!=", .str "<="]) hl2)
    have hl12 := lk_new (o := .lst [.str "<=", .str "=", .str "!=", .str "<="]) hl1 hl2
    have hvs2 := hvs1.keep (tups_new (o := .lst [.str "<=", .str "=", .str "!=", .str "<="]) hl2)
    generalize upd H1 l2 _ = H2 at D2 e2 g2 d12 hl12 hvs2 ⊢
    walk_at "rr"
    refine ⟨d, c, l2, _, _, rfl, D2, by omega, .inl ⟨g2, n2⟩, by simp, by simp, fun x2 H3 hx2 D3 e3 => ?_⟩
    obtain ⟨op, rfl, hop⟩ : ∃ op : Str, x2 = .str op ∧ op ∈ (["<=", "=", "!="] : List Str) := by
      simp only [List.mem_cons, List.not_mem_nil, or_false] at hx2
      rcases hx2 with rfl | rfl | rfl | rfl <;> exact ⟨_, rfl, by simp⟩
    have hl3 := e3.2 _ _ nl hl12
    have hvs3 := hvs2.keep e3.1
    have d13 := d12.keep e3.1
    walk_at "rr"
    refine ⟨d, c, l, _, vs, rfl, D3, by omega, .inl ⟨hl3, nl⟩, by omega, by omega, fun x3 H4 hx3 D4 e4 => ?_⟩
    obtain ⟨u3, m3, d3⟩ := pick_use (hvs3.keep e4.1) hx3
    have d14 := d13.keep e4.1
    have e14 := (e2.trans e3).trans e4
    walk_at "rr"
    refine ⟨_, _, _, rfl, ?_⟩
    walk_at "rr"
    refine ⟨k_sz rfl, fun l5 hl5 => ?_⟩
    have D5 := D4.new (o := .lst [x3, .non]) hl5
    have n5 : ¬ Dk d c l5 := D4.off hl5
    have e5 := e14.trans (ext_new (M := Dk d c) (o := .lst [x3, .non]) hl5)
    have g5 : upd H4 l5 (.lst [x3, .non]) l5 = some (.lst [x3, .non]) := upd_same
    have d15 := d14.keep (tups_new (o := .lst [x3, .non]) hl5)
    have d35 := d3.keep (tups_new (o := .lst [x3, .non]) hl5)
    generalize upd H4 l5 _ = H5 at D5 e5 g5 d15 d35 ⊢
    walk_at "rr"
    refine ⟨d, c, _, 2, rfl, D5, by omega, by decide, by decide, fun r H6 r0 r1 D6 e6 => ?_⟩
    have g6 := e6.2 _ _ n5 g5
    walk_at "rr"
    obtain ⟨y, oy, hy, dy, my⟩ : ∃ (y : V) (oy : Option Use), atI [x3, V.non] r = some y ∧ DT H6 y (optU oy) ∧ ∀ u, oy = some u → u ∈ us := by
      have : r = 0 ∨ r = 1 := by omega
      rcases this with rfl | rfl
      · exact ⟨_, some u3, rfl, d35.keep e6.1, fun u e => by cases e; exact m3⟩
      · exact ⟨_, none, rfl, .non, fun u e => by cases e⟩
    refine k_ixqL (SqL.of g6) hy ?_
    walk_at "rr"
    refine ⟨d, c, _, rfl, D6, by omega, fun kk H7 sk D7 e7 => ?_⟩
    walk_at "rr"
    refine ⟨k_sz rfl, fun a ha => ?_⟩
    have tu := tups_new (o := .tup [x1, .str op, y, .int kk]) ha
    exact k a ⟨u1, op, oy, kk⟩ _ ⟨m1, my, hop, sk⟩ (.tup upd_same (.cons (((d15.keep e6.1).keep e7.1).keep tu) (.cons (.str _) (.cons ((dy.keep e7.1).keep tu) (.cons (.int _) .nil))))) ((D7.mono (by omega)).new ha) (((e5.trans e6).trans e7).trans (ext_new ha))
end
end K11

set_option Elab.async false
set_option maxRecDepth 100000
set_option maxHeartbeats 4000000
set_option linter.unusedVariables false
namespace K11
open PySem PySem.Spec PyProof.Rows L2 Own
-- steps
local macro_rules | `(tactic| walk_at "lk") => `(tactic| first
  | assumption | exact upd_same
  | ((with_reducible refine' lk_new ?e (by assumption)); (case e => walk_at "lk"))
  | ((with_reducible refine' lk_ext (by assumption) ?e); (case e => walk_at "lk"))
  | ((with_reducible refine' lk_same (by assumption) ?e); (case e => walk_at "lk")))
local macro_rules | `(tactic| walk_at "sq") => `(tactic| first | assumption | exact SqL.of (by walk_at "lk") | exact SqT.of (by walk_at "lk"))
local macro_rules | `(tactic| walk_at "r1") => `(tactic| first
  | with_reducible refine k_seq ?_ | with_reducible refine k_asg ?_ | with_reducible refine k_ret ?_ | with_reducible refine k_drop ?_ | with_reducible refine k_next ?_ | with_reducible refine k_ifS ?_
  | ((with_reducible refine' k_var ?e ?_); (case e => exact rfl)) | with_reducible refine k_c ?_ | with_reducible refine k_op ?_ | with_reducible refine k_un ?_ | with_reducible refine k_test ?_ | with_reducible refine k_B ?_
  | with_reducible refine k_and ?_ | with_reducible refine k_or ?_ | with_reducible refine k_not ?_ | with_reducible refine k_andV ?_ | with_reducible refine k_orV ?_ | with_reducible refine k_notV ?_ | with_reducible refine k_if ?_
  | with_reducible refine k_nil ?_ | with_reducible refine k_cons ?_ | with_reducible refine k_tup ?_ | with_reducible refine k_lst ?_ | with_reducible refine k_call ?_ | with_reducible refine k_cb ?_ | with_reducible refine k_ck ?_
  | with_reducible refine k_par ?_ | with_reducible refine k_par1 ?_ | with_reducible refine k_tr ?_ | with_reducible refine k_rI0 ?_ | with_reducible refine k_rU ?_
  | with_reducible refine k_gN ?_ | with_reducible refine k_gS ?_ | with_reducible refine k_gNil ?_ | with_reducible refine k_gCons ?_ | with_reducible refine k_bm0 ?_ | with_reducible refine k_bm ?_
  | with_reducible refine k_for ?_ | with_reducible refine k_iL ?_ | with_reducible refine k_iT ?_ | with_reducible refine k_iR1 ?_ | ((with_reducible refine k_iR1i ?e ?_); (case e => first | decide | exact ⟨by omega, by omega⟩))
  | with_reducible refine k_max ?_ | with_reducible refine k_isB ?_ | with_reducible refine k_sl ?_ | with_reducible refine k_noP ?_ | with_reducible refine k_part ?_ | with_reducible refine k_partI ?_ | with_reducible refine k_revL ?_
  | ((with_reducible refine' k_ixqT ?e ?f ?_); (case e => walk_at "sq"); (case f => first | exact rfl | exact atI_head))
  | ((with_reducible refine' k_ixqL ?e ?f ?_); (case e => walk_at "sq"); (case f => first | exact rfl | exact atI_head))
  | ((with_reducible refine' k_lenL ?e ?_); (case e => walk_at "sq"))
  | ((with_reducible refine' k_lenT ?e ?_); (case e => walk_at "sq"))
  | ((with_reducible refine' k_ixL ?e ?f ?_); (case e => walk_at "sq"); (case f => first | exact rfl | exact atI_head))
  | ((with_reducible refine' k_ixT ?e ?f ?_); (case e => walk_at "sq"); (case f => first | exact rfl | exact atI_head))
  | ((with_reducible refine k_eq ?e ?_); (case e => exact rfl)) | ((with_reducible refine k_ne ?e ?_); (case e => exact rfl))
  | ((with_reducible refine k_rI ?e ?_); (case e => first | assumption | omega | decide | exact ⟨by omega, by omega⟩ | exact .inl ⟨by omega, by omega⟩ | exact .inr ⟨by omega, by omega⟩)))
local macro_rules | `(tactic| walk_at "rd") => `(tactic| repeat walk_at "r1")
local macro_rules | `(tactic| walk_at "r2") => `(tactic| first
  | walk_at "r1"
  | with_reducible refine k_ifTt ?_ | with_reducible refine k_ifFf ?_ | with_reducible refine k_ifNt ?_ | with_reducible refine k_ifNf ?_
  | with_reducible refine k_makeR ?_ | with_reducible refine k_tJ ?_ | with_reducible refine k_tJc ?_ | with_reducible refine k_tJn ?_ | with_reducible refine k_fmt ?_ | with_reducible refine k_lc ?_ | with_reducible refine k_din ?_ | with_reducible refine k_fld ?_ | with_reducible refine k_dget ?_
  | with_reducible refine k_dput ?_
  | with_reducible refine k_isNv ?_
  | with_reducible refine k_notNv ?_
  | with_reducible refine k_str ?_
  | with_reducible refine k_enumT ?_
  | with_reducible refine k_zipA ?_
  | with_reducible refine k_chain ?_
  | ((with_reducible refine' k_dgS ?e dkv_cells ?_); (case e => walk_at "lk"))
  | ((with_reducible refine' k_dgS ?e dkv_mixed ?_); (case e => walk_at "lk"))
  | ((with_reducible refine' k_dgS ?e dkv_turn ?_); (case e => walk_at "lk")))
local macro_rules | `(tactic| walk_at "rr") => `(tactic| repeat walk_at "r2")
-- steps end
def opt2 : List Str := ["<=", "="]
def opt3 : List Str := ["<=", "=", ">="]
def Cmp.In (c : Cmp) (cs : List Str) : Prop := c.col ∈ cs ∧ (∀ z, c.other = some z → z ∈ cs) ∧ c.op ∈ opt2 ∧ Sml c.k
structure Prb.In (p : Prb) (t : T) (us : List Use) : Prop where
  wd : p.word = "some" ∨ p.word = "none"
  tb : p.tb = t.nm
  ow : ∀ c ∈ p.own, c.In t.cs
  ol : p.own.length ≤ 2
  cl : p.col ∈ t.cs
  op : p.op ∈ opt3
  us : p.use ∈ us
  k : Sml p.k
theorem pick_str {zs : List Str} {x : V} (h : x ∈ zs.map V.str) : ∃ z ∈ zs, x = .str z := by
  obtain ⟨z, hz, rfl⟩ := List.mem_map.mp h
  exact ⟨z, hz, rfl⟩
section
variable {P : Program} {w : World} {K : PySem.W.Frag} {mg : Str → Option Value} {g0 : Heap}
abbrev s_probe : Stmt := top 77
theorem sc_probe : FnScope ["_law_deck_here", "_law_table_here", "_law_uses_here", "_law_own", "_law_k", "_law_name", "_law_columns", "_law_other", "_law_column", "_law_op", "_law_use"] ["_law_deck_here", "_law_table_here", "_law_uses_here"] (defScope s_probe) :=
  ⟨rfl, rfl, rfl, by decide +kernel, rfl, by decide +kernel, by decide +kernel⟩
def spProbe : Sp := fun vs H Q _ => ∃ (d c t l : Addr) (b : Int) (tt : T) (us : List Use), vs = [.ref d, .ref t, .ref l] ∧ DeckE d c b H ∧ b ≤ 900000 ∧ TAt H t tt ∧ tt.Ok ∧ UsesAt H l us ∧ ¬ Dk d c l ∧ us ≠ [] ∧ us.length ≤ 100 ∧
  ∀ (a : Addr) (p : Prb) (H' : Hp), p.In tt us → DT H' (.ref a) p.d → DeckE d c (b + 60) H' → Ext (Dk d c) H H' → Q (.ref a) H'
theorem ok_probe {f : Addr} {fd : FuncData} (F : Fun K "_law_probe" "_law_probe" s_probe f fd) (z_range : mg "range" = none) (z_tuple : mg "tuple" = none) (C_draw : Cal P w K mg g0 "_law_draw" 1 ["_law_deck_here", "_law_bound"] spDraw)
    (C_pick : Cal P w K mg g0 "_law_pick" 2 ["_law_deck_here", "_law_some"] spPick) (C_integer : Cal P w K mg g0 "_law_integer" 2 ["_law_deck_here"] spInteger) : GOk P w K mg g0 CX0 3 f fd ["_law_deck_here", "_law_table_here", "_law_uses_here"] spProbe := by
  have nd := sc_probe.nd
  refine okG F sc_probe (fun vs H Q E h => ?_) (fun cdv A up s H vs Q E qt hr h => ?_)
  · obtain ⟨d, c, t, l, b, tt, us, rfl, _⟩ := h
    rfl
  · obtain ⟨d, c, t, l, b, tt, us, rfl, D, hb, ht, ok, hus, nl, ne, lus, k⟩ := h
    obtain ⟨cA, iA, kA, h1, h2, _, _⟩ := ht
    have c1 := ok.c1
    have c3 := ok.c3
    have lpos : 0 < us.length := List.length_pos_iff.mpr ne
    refine ⟨_, (pss_cons (ps_asg (pe_slice sl_tup (pv 1) po_none (po_some pe_int)) (pg_tup rfl (pgs_cons (pg_name (i := 5) nd rfl (Or.inl rfl)) (pgs_cons (pg_name (i := 6) nd rfl (Or.inl rfl)) pgs_nil))))
        (pss_cons (ps_set (i := 3) nd rfl (Or.inl rfl) (pe_lst pa_nil))
        (pss_cons (ps_for PassesOwn.never rfl (pi_range1 (by rfl) z_range (pa_cons (pe_c C_draw qt (hr.mono (by decide)) (pa_cons (pv 0) (pa_cons pe_int pa_nil))) pa_nil)) (pg_name (i := 4) nd rfl (Or.inl rfl)) (pss_cons (ps_set (i := 7) nd rfl (Or.inl rfl) (pe_ix ix_seq (pe_lst (pa_cons (pe_c C_pick qt (hr.mono (by decide)) (pa_cons (pv 0) (pa_cons (pv 6) pa_nil))) (pa_cons pe_non pa_nil))) (pe_c C_draw qt (hr.mono (by decide)) (pa_cons (pv 0) (pa_cons pe_int pa_nil))) (fun _ _ => rfl)))
        (pss_one (ps_expr (pe_bm PySem.F.plainAttrs_list PySem.F.slot_list_append PySem.F.type_list_append mt_append (pv 3) (pa_cons (pe_tup (pa_cons (pe_c C_pick qt (hr.mono (by decide)) (pa_cons (pv 0) (pa_cons (pv 6) pa_nil))) (pa_cons (pe_c C_pick qt (hr.mono (by decide)) (pa_cons (pv 0) (pa_cons (pe_lst (pa_cons pe_str (pa_cons pe_str pa_nil))) pa_nil))) (pa_cons (pv 7) (pa_cons (pe_c C_integer qt (hr.mono (by decide)) (pa_cons (pv 0) pa_nil)) pa_nil))))) pa_nil))))))
        (pss_cons (ps_par3 (i := 8) (j := 9) (l := 10) (by rfl) nd rfl rfl rfl (by decide) (by decide) (by decide) rfl rfl rfl (pa_cons (pe_c C_pick qt (hr.mono (by decide)) (pa_cons (pv 0) (pa_cons (pv 6) pa_nil))) (pa_cons (pe_c C_pick qt (hr.mono (by decide)) (pa_cons (pv 0) (pa_cons (pe_lst (pa_cons pe_str (pa_cons pe_str (pa_cons pe_str pa_nil)))) pa_nil))) (pa_cons (pe_c C_pick qt (hr.mono (by decide)) (pa_cons (pv 0) (pa_cons (pv 2) pa_nil))) pa_nil))) (by rfl))
        (pss_one (ps_ret (pe_tup (pa_cons (pe_c C_pick qt (hr.mono (by decide)) (pa_cons (pv 0) (pa_cons (pe_lst (pa_cons pe_str (pa_cons pe_str pa_nil))) pa_nil))) (pa_cons (pv 5) (pa_cons (pe_callTy call_tuple_of (by rfl) z_tuple (by decide +kernel) (pa_cons (pv 3) pa_nil)) (pa_cons (pe_tup (pa_cons (pv 8) (pa_cons (pv 9) (pa_cons (pv 10) (pa_cons (pe_c C_integer qt (hr.mono (by decide)) (pa_cons (pv 0) pa_nil)) pa_nil))))) pa_nil))))))))))), ?_⟩
    walk_at "rr"
    refine ⟨t, _, rfl, SqT.of h1, by simp [HT.sIx], fun p0 hp0 => ?_⟩
    rw [show cutV [V.str tt.nm, V.ref cA, V.ref iA, V.ref kA] none (some 2) = [V.str tt.nm, V.ref cA] from rfl]
    refine k_gTup (SqT.of upd_same) rfl ?_
    walk_at "rr"
    have D1 := D.new (o := .tup [V.str tt.nm, V.ref cA]) hp0
    have e1 : Ext (Dk d c) H (upd H p0 (.tup [V.str tt.nm, V.ref cA])) := ext_new hp0
    have h21 := lk_new (o := .tup [V.str tt.nm, V.ref cA]) h2 hp0
    generalize upd H p0 _ = H1 at D1 e1 h21 ⊢
    refine ⟨k_sz rfl, fun L hL => ?_⟩
    have nL : ¬ Dk d c L := D1.off hL
    have fL : H L = none := ext_free e1 nL hL
    have D2 := D1.new (o := .lst []) hL
    have e2 := e1.trans (ext_new (M := Dk d c) (o := .lst []) hL)
    have h22 := lk_new (o := .lst []) h21 hL
    have gL : upd H1 L (.lst []) L = some (.lst []) := upd_same
    generalize upd H1 L (.lst []) = H2 at D2 e2 h22 gL ⊢
    walk_at "rr"
    refine ⟨d, c, _, 3, rfl, D2, by omega, by decide, by decide, fun n H3 n0 n1 D3 e3 => ?_⟩
    have h23 := e3.1 _ _ h22
    have gL3 := e3.2 _ _ nL gL
    obtain ⟨n, rfl⟩ := Int.eq_ofNat_of_zero_le n0
    walk_at "rr"
    let Pv : Nat → L2.St → Hp → Prop := fun i σ H' => ∃ (o4 o7 : Option V) (vs : List V) (own : List Cmp), σ = [some (.ref d), some (.ref t), some (.ref l), some (.ref L), o4, some (.str tt.nm), some (.ref cA), o7, none, none, none] ∧ H' L = some (.lst vs) ∧ DTs H' vs (own.map Cmp.d) ∧ own.length = i ∧ (∀ c ∈ own, c.In tt.cs) ∧
      H' cA = some (.tup (tt.cs.map V.str)) ∧ DeckE d c (b + 1 + 12 * i) H' ∧ Ext (Dk d c) H H'
    refine ⟨(n : Int), rfl, by omega, by omega, for_range (lo := 0) (n := n) Pv ⟨none, none, [], [], rfl, gL3, .nil, rfl, (fun _ z => by cases z), h23, D3.mono (by omega), e2.trans e3⟩ (fun i σ H4 hi h => ?_) (fun σ H4 h => ?_)⟩
    · obtain ⟨o4, o7, vs, own, rfl, g4, dv, lo, ic, h4, D4, e4⟩ := h
      walk_at "rr"
      refine ⟨d, c, cA, _, _, rfl, D4, by omega, .inr h4, by rw [List.length_map]; omega, by rw [List.length_map]; omega, fun x1 H5 hx1 D5 e5 => ?_⟩
      obtain ⟨z1, m1, rfl⟩ := pick_str hx1
      walk_at "rr"
      refine ⟨k_sz rfl, fun l5 hl5 => ?_⟩
      have D6 := D5.new (o := .lst [.str z1, .non]) hl5
      have n6 : ¬ Dk d c l5 := D5.off hl5
      have e6 := (e4.trans e5).trans (ext_new (M := Dk d c) (o := .lst [.str z1, .non]) hl5)
      have e46 := e5.trans (ext_new (M := Dk d c) (o := .lst [.str z1, .non]) hl5)
      have g6 : upd H5 l5 (.lst [.str z1, .non]) l5 = some (.lst [.str z1, .non]) := upd_same
      generalize upd H5 l5 _ = H6 at D6 e6 e46 g6 ⊢
      walk_at "rr"
      refine ⟨d, c, _, 2, rfl, D6, by omega, by decide, by decide, fun r H7 r0 r1 D7 e7 => ?_⟩
      have g7 := e7.2 _ _ n6 g6
      walk_at "rr"
      obtain ⟨y, oy, hy, dy, my⟩ : ∃ (y : V) (oy : Option Str), atI [V.str z1, V.non] r = some y ∧ (∀ H', DT H' y (optS oy)) ∧ ∀ u, oy = some u → u ∈ tt.cs := by
        have : r = 0 ∨ r = 1 := by omega
        rcases this with rfl | rfl
        · exact ⟨_, some z1, rfl, fun _ => .str _, fun u e => by cases e; exact m1⟩
        · exact ⟨_, none, rfl, fun _ => .non, fun u e => by cases e⟩
      refine k_ixqL (SqL.of g7) hy ?_
      walk_at "rr"
      have e47 := e46.trans e7
      have g47 := e47.2 _ _ nL g4
      refine ⟨k_tyL g47, ?_⟩
      walk_at "rr"
      refine ⟨d, c, cA, _, _, rfl, D7, by omega, .inr (e47.1 _ _ h4), by rw [List.length_map]; omega, by rw [List.length_map]; omega, fun x2 H8 hx2 D8 e8 => ?_⟩
      obtain ⟨z2, m2, rfl⟩ := pick_str hx2
      walk_at "rr"
      refine ⟨k_sz rfl, fun l8 hl8 => ?_⟩
      have D9 := D8.new (o := .lst [.str "<=", .str "="]) hl8
      have n9 : ¬ Dk d c l8 := D8.off hl8
      have e49 := (e47.trans e8).trans (ext_new (M := Dk d c) (o := .lst [.str "<=", .str "="]) hl8)
      have g9 : upd H8 l8 (.lst [.str "<=", .str "="]) l8 = some (.lst [.str "<=", .str "="]) := upd_same
      generalize upd H8 l8 _ = H9 at D9 e49 g9 ⊢
      walk_at "rr"
      refine ⟨d, c, l8, _, _, rfl, D9, by omega, .inl ⟨g9, n9⟩, by simp, by simp, fun x3 H10 hx3 D10 e10 => ?_⟩
      obtain ⟨op, rfl, hop⟩ : ∃ op : Str, x3 = .str op ∧ op ∈ opt2 := by
        simp only [List.mem_cons, List.not_mem_nil, or_false] at hx3
        rcases hx3 with rfl | rfl <;> exact ⟨_, rfl, by simp [opt2]⟩
      walk_at "rr"
      refine ⟨d, c, _, rfl, D10, by omega, fun kk H11 sk D11 e11 => ?_⟩
      walk_at "rr"
      refine ⟨k_sz rfl, fun a ha => ?_⟩
      have e4b := ((e49.trans e10).trans e11).trans (ext_new (M := Dk d c) (o := .tup [.str z2, .str op, y, .int kk]) ha)
      have D12 := D11.new (o := .tup [.str z2, .str op, y, .int kk]) ha
      have ga : upd H11 a (.tup [.str z2, .str op, y, .int kk]) a = some (.tup [.str z2, .str op, y, .int kk]) := upd_same
      generalize upd H11 a _ = H12 at e4b D12 ga ⊢
      have g12 := e4b.2 _ _ nL g4
      have tu : Tups H12 (upd H12 L (.lst (vs ++ [V.ref a]))) := tups_upd g12 fun _ z => by cases z
      have lvs : vs.length = i := by rw [dv.len, List.length_map, lo]
      walk_at "rr"
      refine k_app g12 (k_szL (by omega)) ?_
      walk_at "rr"
      refine ⟨_, _, vs ++ [V.ref a], own ++ [⟨z2, op, oy, kk⟩], rfl, upd_same, ?_, by rw [List.length_append, lo]; rfl, fun cm hcm => ?_, tu _ _ (e4b.1 _ _ h4), (D12.offL nL).mono (by omega), ext_off (e4.trans e4b) fL⟩
      · rw [List.map_append]
        exact ((dv.keep e4b.1).keep tu).app (.cons (.tup (tu _ _ ga) (.cons (.str _) (.cons (.str _) (.cons (dy _) (.cons (.int _) .nil))))) .nil)
      · rcases List.mem_append.mp hcm with z | z
        · exact ic cm z
        · obtain rfl := List.mem_singleton.mp z
          exact ⟨m2, my, hop, sk⟩
    · obtain ⟨o4, o7, vs, own, rfl, g4, dv, lo, ic, h4, D4, e4⟩ := h
      obtain ⟨us0, hl4, hv4⟩ := hus.ext e4 nl
      have lus0 : us0.length = us.length := by rw [hv4.len, List.length_map]
      have lvs : vs.length = n := by rw [dv.len, List.length_map, lo]
      unfold tPar3
      walk_at "rr"
      refine ⟨d, c, cA, _, _, rfl, D4, by omega, .inr h4, by rw [List.length_map]; omega, by rw [List.length_map]; omega, fun x1 H5 hx1 D5 e5 => ?_⟩
      obtain ⟨z1, m1, rfl⟩ := pick_str hx1
      walk_at "rr"
      refine ⟨k_sz rfl, fun l5 hl5 => ?_⟩
      have D6 := D5.new (o := .lst [.str "<=", .str "=", .str ">="]) hl5
      have n6 : ¬ Dk d c l5 := D5.off hl5
      have e46 := e5.trans (ext_new (M := Dk d c) (o := .lst [.str "<=", .str "=", .str ">="]) hl5)
      have g6 : upd H5 l5 (.lst [.str "<=", .str "=", .str ">="]) l5 = some (.lst [.str "<=", .str "=", .str ">="]) := upd_same
      generalize upd H5 l5 _ = H6 at D6 e46 g6 ⊢
      walk_at "rr"
      refine ⟨d, c, l5, _, _, rfl, D6, by omega, .inl ⟨g6, n6⟩, by simp, by simp, fun x3 H7 hx3 D7 e7 => ?_⟩
      obtain ⟨op, rfl, hop⟩ : ∃ op : Str, x3 = .str op ∧ op ∈ opt3 := by
        simp only [List.mem_cons, List.not_mem_nil, or_false] at hx3
        rcases hx3 with rfl | rfl | rfl <;> exact ⟨_, rfl, by simp [opt3]⟩
      have e47 := e46.trans e7
      walk_at "rr"
      refine ⟨d, c, l, _, us0, rfl, D7, by omega, .inl ⟨e47.2 _ _ nl hl4, nl⟩, by omega, by omega, fun x4 H8 hx4 D8 e8 => ?_⟩
      have e48 := e47.trans e8
      obtain ⟨u, mu, du⟩ := pick_use (hv4.keep e48.1) hx4
      walk_at "rr"
      refine ⟨_, _, _, rfl, ?_⟩
      walk_at "rr"
      refine ⟨k_sz rfl, fun l8 hl8 => ?_⟩
      have D9 := D8.new (o := .lst [.str "some", .str "none"]) hl8
      have n9 : ¬ Dk d c l8 := D8.off hl8
      have e89 : Ext (Dk d c) H8 (upd H8 l8 (.lst [.str "some", .str "none"])) := ext_new hl8
      have g9 : upd H8 l8 (.lst [.str "some", .str "none"]) l8 = some (.lst [.str "some", .str "none"]) := upd_same
      generalize upd H8 l8 _ = H9 at D9 e89 g9 ⊢
      walk_at "rr"
      refine ⟨d, c, l8, _, _, rfl, D9, by omega, .inl ⟨g9, n9⟩, by simp, by simp, fun x5 H10 hx5 D10 e10 => ?_⟩
      obtain ⟨wd, rfl, hwd⟩ : ∃ wd : Str, x5 = .str wd ∧ (wd = "some" ∨ wd = "none") := by
        simp only [List.mem_cons, List.not_mem_nil, or_false] at hx5
        rcases hx5 with rfl | rfl
        · exact ⟨_, rfl, .inl rfl⟩
        · exact ⟨_, rfl, .inr rfl⟩
      have e8a := e89.trans e10
      have e4a := e48.trans e8a
      walk_at "rr"
      refine ⟨L, _, rfl, .inl ⟨SqL.of (e4a.2 _ _ nL g4), fun g hg => ?_⟩⟩
      have gg : upd H10 g (.tup vs) g = some (.tup vs) := upd_same
      have D11 := D10.new (o := .tup vs) hg
      have e8b := e8a.trans (ext_new (M := Dk d c) (o := .tup vs) hg)
      generalize upd H10 g (.tup vs) = H11 at gg D11 e8b ⊢
      walk_at "rr"
      refine ⟨d, c, _, rfl, D11, by omega, fun kk H12 sk D12 e12 => ?_⟩
      have gg2 := e12.1 _ _ gg
      walk_at "rr"
      refine ⟨k_sz rfl, fun q hq => ?_⟩
      have e8c := (e8b.trans e12).trans (ext_new (M := Dk d c) (o := .tup [.str z1, .str op, x4, .int kk]) hq)
      have D13 := D12.new (o := .tup [.str z1, .str op, x4, .int kk]) hq
      have gq : upd H12 q (.tup [.str z1, .str op, x4, .int kk]) q = some (.tup [.str z1, .str op, x4, .int kk]) := upd_same
      have gg3 := lk_new (o := .tup [.str z1, .str op, x4, .int kk]) gg2 hq
      generalize upd H12 q _ = H13 at e8c D13 gq gg3 ⊢
      walk_at "rr"
      refine ⟨k_sz rfl, fun a ha => ?_⟩
      have tu := tups_new (o := .tup [.str wd, .str tt.nm, .ref g, .ref q]) ha
      refine k a ⟨wd, tt.nm, own, z1, op, u, kk⟩ _ ⟨hwd, rfl, ic, by show own.length ≤ 2; omega, m1, hop, mu, sk⟩ ?_ ((D13.mono (by omega)).new ha) (((e4.trans e48).trans e8c).trans (ext_new ha))
      have dvF := (dv.keep e48.1).keep e8c.1
      exact .tup upd_same (.cons (.str _) (.cons (.str _) (.cons (.tup (tu _ _ gg3) (dvF.keep tu)) (.cons (.tup (tu _ _ gq) (.cons (.str _) (.cons (.str _) (.cons ((du.keep e8c.1).keep tu) (.cons (.int _) .nil))))) .nil))))
end
end K11

set_option Elab.async false
set_option maxRecDepth 100000
set_option maxHeartbeats 4000000
set_option linter.unusedVariables false
namespace K11
open PySem PySem.Spec PyProof.Rows L2 Own
-- steps
local macro_rules | `(tactic| walk_at "lk") => `(tactic| first
  | assumption | exact upd_same
  | ((with_reducible refine' lk_new ?e (by assumption)); (case e => walk_at "lk"))
  | ((with_reducible refine' lk_ext (by assumption) ?e); (case e => walk_at "lk"))
  | ((with_reducible refine' lk_same (by assumption) ?e); (case e => walk_at "lk")))
local macro_rules | `(tactic| walk_at "sq") => `(tactic| first | assumption | exact SqL.of (by walk_at "lk") | exact SqT.of (by walk_at "lk"))
local macro_rules | `(tactic| walk_at "r1") => `(tactic| first
  | with_reducible refine k_seq ?_ | with_reducible refine k_asg ?_ | with_reducible refine k_ret ?_ | with_reducible refine k_drop ?_ | with_reducible refine k_next ?_ | with_reducible refine k_ifS ?_
  | ((with_reducible refine' k_var ?e ?_); (case e => exact rfl)) | with_reducible refine k_c ?_ | with_reducible refine k_op ?_ | with_reducible refine k_un ?_ | with_reducible refine k_test ?_ | with_reducible refine k_B ?_
  | with_reducible refine k_and ?_ | with_reducible refine k_or ?_ | with_reducible refine k_not ?_ | with_reducible refine k_andV ?_ | with_reducible refine k_orV ?_ | with_reducible refine k_notV ?_ | with_reducible refine k_if ?_
  | with_reducible refine k_nil ?_ | with_reducible refine k_cons ?_ | with_reducible refine k_tup ?_ | with_reducible refine k_lst ?_ | with_reducible refine k_call ?_ | with_reducible refine k_cb ?_ | with_reducible refine k_ck ?_
  | with_reducible refine k_par ?_ | with_reducible refine k_par1 ?_ | with_reducible refine k_tr ?_ | with_reducible refine k_rI0 ?_ | with_reducible refine k_rU ?_
  | with_reducible refine k_gN ?_ | with_reducible refine k_gS ?_ | with_reducible refine k_gNil ?_ | with_reducible refine k_gCons ?_ | with_reducible refine k_bm0 ?_ | with_reducible refine k_bm ?_
  | with_reducible refine k_for ?_ | with_reducible refine k_iL ?_ | with_reducible refine k_iT ?_ | with_reducible refine k_iR1 ?_ | ((with_reducible refine k_iR1i ?e ?_); (case e => first | decide | exact ⟨by omega, by omega⟩))
  | with_reducible refine k_max ?_ | with_reducible refine k_isB ?_ | with_reducible refine k_sl ?_ | with_reducible refine k_noP ?_ | with_reducible refine k_part ?_ | with_reducible refine k_partI ?_ | with_reducible refine k_revL ?_
  | ((with_reducible refine' k_ixqT ?e ?f ?_); (case e => walk_at "sq"); (case f => first | exact rfl | exact atI_head))
  | ((with_reducible refine' k_ixqL ?e ?f ?_); (case e => walk_at "sq"); (case f => first | exact rfl | exact atI_head))
  | ((with_reducible refine' k_lenL ?e ?_); (case e => walk_at "sq"))
  | ((with_reducible refine' k_lenT ?e ?_); (case e => walk_at "sq"))
  | ((with_reducible refine' k_ixL ?e ?f ?_); (case e => walk_at "sq"); (case f => first | exact rfl | exact atI_head))
  | ((with_reducible refine' k_ixT ?e ?f ?_); (case e => walk_at "sq"); (case f => first | exact rfl | exact atI_head))
  | ((with_reducible refine k_eq ?e ?_); (case e => exact rfl)) | ((with_reducible refine k_ne ?e ?_); (case e => exact rfl))
  | ((with_reducible refine k_rI ?e ?_); (case e => first | assumption | omega | decide | exact ⟨by omega, by omega⟩ | exact .inl ⟨by omega, by omega⟩ | exact .inr ⟨by omega, by omega⟩)))
local macro_rules | `(tactic| walk_at "rd") => `(tactic| repeat walk_at "r1")
local macro_rules | `(tactic| walk_at "r2") => `(tactic| first
  | walk_at "r1"
  | with_reducible refine k_ifTt ?_ | with_reducible refine k_ifFf ?_ | with_reducible refine k_ifNt ?_ | with_reducible refine k_ifNf ?_
  | with_reducible refine k_makeR ?_ | with_reducible refine k_tJ ?_ | with_reducible refine k_tJc ?_ | with_reducible refine k_tJn ?_ | with_reducible refine k_fmt ?_ | with_reducible refine k_lc ?_ | with_reducible refine k_din ?_ | with_reducible refine k_fld ?_ | with_reducible refine k_dget ?_
  | with_reducible refine k_dput ?_
  | with_reducible refine k_isNv ?_
  | with_reducible refine k_notNv ?_
  | with_reducible refine k_str ?_
  | with_reducible refine k_enumT ?_
  | with_reducible refine k_zipA ?_
  | with_reducible refine k_chain ?_
  | ((with_reducible refine' k_dgS ?e dkv_cells ?_); (case e => walk_at "lk"))
  | ((with_reducible refine' k_dgS ?e dkv_mixed ?_); (case e => walk_at "lk"))
  | ((with_reducible refine' k_dgS ?e dkv_turn ?_); (case e => walk_at "lk")))
local macro_rules | `(tactic| walk_at "rr") => `(tactic| repeat walk_at "r2")
-- steps end
theorem valV_app {kvs : List (Key × V)} {q : Key × V} {k : Key} (h : valV kvs k = none) (n : q.1 ≠ k) : valV (kvs ++ [q]) k = none := by
  unfold valV at h ⊢
  rw [List.find?_append]
  have h' : kvs.find? (fun kv => decide (kv.1 = k)) = none := by simpa using h
  rw [h']
  simp [n]
theorem merge_new : ∀ {more kvs : List (Key × V)}, (∀ x ∈ more, valV kvs x.1 = none) → (more.map (·.1)).Nodup → mergeK kvs more = kvs ++ more
  | [], kvs, _, _ => by simp [mergeK]
  | q :: r, kvs, h, nd => by
    have e : mergeK kvs (q :: r) = mergeK (putK kvs q.1 q.2) r := rfl
    rw [e, putK_new _ (h q List.mem_cons_self)]
    rw [List.map_cons, List.nodup_cons] at nd
    have ih := merge_new (more := r) (kvs := kvs ++ [(q.1, q.2)]) (fun x hx => valV_app (h x (List.mem_cons_of_mem _ hx)) fun z => nd.1 (List.mem_map.mpr ⟨x, hx, z.symm⟩)) nd.2
    rw [ih]
    simp
/-- the columns of the table with this name -/
def colsOf (ts : List AT) (nm : Str) : List Str := ((ts.find? fun x => decide (x.2.nm = nm)).map fun x => x.2.cs).getD []
def usesOf (ts : List AT) (refs : List Use) : List Use := refs.flatMap fun r => (colsOf ts r.2).map fun c => (r.1, c)
def KvAt (H : Hp) (x : AT) (kv : Key × V) : Prop := kv.1 = Sum.inr x.2.nm ∧ ∃ c, kv.2 = V.ref c ∧ H c = some (.tup (x.2.cs.map V.str))
theorem kv_get {H : Hp} : ∀ {ts : List AT} {kvs : List (Key × V)}, Paired (KvAt H) ts kvs → ∀ {nm : Str}, (∃ x ∈ ts, x.2.nm = nm) → ∃ c, valV kvs (Sum.inr nm) = some (.ref c) ∧ H c = some (.tup ((colsOf ts nm).map V.str))
  | _, _, .nil, nm, ⟨x, hx, _⟩ => by cases hx
  | x :: ts, kv :: kvs, .cons a b, nm, h => by
    obtain ⟨a1, c, a2, a3⟩ := a
    by_cases e : x.2.nm = nm
    · refine ⟨c, ?_, ?_⟩
      · obtain ⟨k0, v0⟩ := kv
        simp only at a1 a2
        subst a1 a2
        rw [e]
        exact kv_hit
      · unfold colsOf
        rw [List.find?_cons_of_pos (by simpa using e)]
        exact a3
    · obtain ⟨y, hy, hn⟩ := h
      have hy' : y ∈ ts := by
        rcases List.mem_cons.mp hy with z | z
        · rw [z] at hn
          exact absurd hn e
        · exact z
      obtain ⟨c, h1, h2⟩ := kv_get b ⟨y, hy', hn⟩
      refine ⟨c, ?_, ?_⟩
      · obtain ⟨k0, v0⟩ := kv
        simp only at a1
        subst a1
        rw [kv_miss fun z => e (Sum.inr.inj z)]
        exact h1
      · unfold colsOf at h2 ⊢
        rw [List.find?_cons_of_neg (by simpa using e)]
        exact h2
theorem kv_keys {H : Hp} : ∀ {ts : List AT} {kvs : List (Key × V)}, Paired (KvAt H) ts kvs → kvs.map (·.1) = (namesOf ts).map Sum.inr
  | _, _, .nil => rfl
  | _, _, .cons a b => congr (congrArg List.cons a.1) (kv_keys b)
theorem kv_merge {H : Hp} {ts : List AT} {kvs : List (Key × V)} (h : Paired (KvAt H) ts kvs) (nd : (namesOf ts).Nodup) : mergeK [] kvs = kvs := by
  refine (merge_new (fun x _ => valV_nil) ?_).trans (List.nil_append _)
  rw [kv_keys h]
  exact nd.map (f := (Sum.inr : Str → Key)) fun a b n z => n (Sum.inr.inj z)
section
variable {P : Program} {w : World} {K : PySem.W.Frag} {mg : Str → Option Value} {g0 : Heap}
abbrev s_uses : Stmt := top 78
theorem sc_uses : FnScope ["_law_tables_here", "_law_pairs", "_law_columns", "_law_found", "_law_alias_here", "_law_name", "_law_one", "_law_column"] ["_law_tables_here", "_law_pairs"] (defScope s_uses) :=
  ⟨rfl, rfl, rfl, by decide +kernel, rfl, by decide +kernel, by decide +kernel⟩
def spUses : Sp := fun vs H Q _ => ∃ (l pr : Addr) (ts : List AT) (refs : List Use), vs = [.ref l, .ref pr] ∧ H l = some (.lst (refsOf ts)) ∧ Tabs ts H ∧ ts.length ≤ 4 ∧ DT H (.ref pr) (.tuple (refs.map useD)) ∧ (∀ r ∈ refs, ∃ x ∈ ts, x.2.nm = r.2) ∧ refs.length ≤ 2 ∧
  ∀ (l' : Addr) (H' : Hp), UsesAt H' l' (usesOf ts refs) → H l' = none → Same H H' → Q (.ref l') H'
theorem ok_uses {f : Addr} {fd : FuncData} (F : Fun K "_law_uses" "_law_uses" s_uses f fd) (z_dict : mg "dict" = none) : GOk P w K mg g0 CX0 1 f fd ["_law_tables_here", "_law_pairs"] spUses := by
  have nd := sc_uses.nd
  refine okG F sc_uses (fun vs H Q E h => ?_) (fun cdv A up s H vs Q E qt hr h => ?_)
  · obtain ⟨l, pr, ts, refs, rfl, _⟩ := h
    rfl
  · obtain ⟨l, pr, ts, refs, rfl, hl, htabs, lts, hpr, hrf, lrf, k⟩ := h
    have hu := hu_of hr
    refine ⟨_, (pss_cons (ps_set (i := 2) nd rfl (Or.inl rfl) (pe_callTy (call_dictP rfl) (by rfl) z_dict (by decide +kernel) (pa_cons (pe_lc (own := [("_law_one", 6)]) (g := (gName 6)) (tt := tYes) (te := (tTup (tCons (tOp _ (tVar 6) (tC (.int 0))) (tCons (tOp _ (tVar 6) (tC (.int 1))) tNil)))) (by rfl) nd (pi_list (pv 0)) (blkOk_by (own := [("_law_one", 6)]) (N := ["_law_tables_here", "_law_pairs", "_law_columns", "_law_found", "_law_alias_here", "_law_name", "_law_one", "_law_column"]) (sc := defScope s_uses) (by decide +kernel)) (fun _ _ _ _ _ => by exact (pg_name (i := 6) nd rfl (Or.inl rfl))) (fun _ _ _ _ _ => by exact pts_nil) (fun _ _ _ _ _ => by exact (pe_tup (pa_cons (pe_ix (ix_seqK (K := K) rfl) (pv 6) pe_int (fun _ _ => rfl)) (pa_cons (pe_ix (ix_seqK (K := K) rfl) (pv 6) pe_int (fun _ _ => rfl)) pa_nil))))) pa_nil)))
        (pss_cons (ps_set (i := 3) nd rfl (Or.inl rfl) (pe_lst pa_nil))
        (pss_cons (ps_for PassesOwn.never rfl (pi_tup (pv 1)) (pg_tup rfl (pgs_cons (pg_name (i := 4) nd rfl (Or.inr rfl)) (pgs_cons (pg_name (i := 5) nd rfl (Or.inl rfl)) pgs_nil))) (pss_one (ps_set (i := 3) nd rfl (Or.inl rfl) (pe_op op_cat (pv 3) (pe_lc (own := [("_law_column", 7)]) (g := (gName 7)) (tt := tYes) (te := (tTup (tCons (tVar 4) (tCons (tVar 7) tNil)))) (by rfl) nd (pi_tup (pe_dget hu (pv 2) (pv 5) (fun _ _ => rfl))) (blkOk_by (own := [("_law_column", 7)]) (N := ["_law_tables_here", "_law_pairs", "_law_columns", "_law_found", "_law_alias_here", "_law_name", "_law_one", "_law_column"]) (sc := defScope s_uses) (by decide +kernel)) (fun _ _ _ _ _ => by exact (pg_name (i := 7) nd rfl (Or.inl rfl))) (fun _ _ _ _ _ => by exact pts_nil) (fun _ _ _ _ _ => by exact (pe_tup (pa_cons (pv 4) (pa_cons (pv 7) pa_nil)))))))))
        (pss_one (ps_ret (pv 3)))))), ?_⟩
    walk_at "rr"
    refine ⟨l, rfl, ⟨_, SqL.of hl⟩, fun B hB => ?_⟩
    refine lc_it (walk_list (xs := refsOf ts)) (fun i H' => Same H H' ∧ ∃ (ps : List Addr) (kvs : List (Key × V)), H' B = some (.lst (ps.map V.ref)) ∧ Paired (KvAt H) (ts.take i) kvs ∧ Paired (fun (p : Addr) (kv : Key × V) => H' p = some (.tup [kV kv.1, kv.2])) ps kvs ∧ ps.length = i) ⟨Same.upd hB, [], [], upd_same, by simpa using Paired.nil, .nil, rfl⟩ (fun i H' _ h => SqL.of (h.1 _ _ hl)) (fun i x H2 H3 hi h y => ?_) fun H2 h => ?_
    · obtain ⟨s2, ps, kvs, hBl, pk, pq, lps⟩ := h
      obtain ⟨rfl, y⟩ := y
      have e : (refsOf ts)[i]? = some x := y
      unfold refsOf at e
      rw [List.getElem?_map] at e
      obtain ⟨t, ht, rfl⟩ := Option.map_eq_some_iff.mp e
      have hi3 : i < ts.length := (List.getElem?_eq_some_iff.mp ht).1
      obtain ⟨cA, iA, kA, h1, h2, _, _⟩ := htabs.at_ t (List.mem_of_getElem? ht)
      have h12 := s2 _ _ h1
      walk_at "rr"
      refine ⟨rfl, k_yes ?_⟩
      walk_at "rr"
      refine ⟨k_sz rfl, fun q hq => ?_⟩
      have hB2 := lk_new (o := .tup [.str t.2.nm, .ref cA]) hBl hq
      refine ⟨_, hB2, k_szL (by rw [List.length_map]; omega), same_off (s2.trans (Same.upd hq)) hB, ps ++ [q], kvs ++ [(Sum.inr t.2.nm, .ref cA)], by rw [upd_same, List.map_append]; rfl, ?_, ?_, by rw [List.length_append, lps]; rfl⟩
      · rw [List.take_add_one, ht]
        exact Paired.snoc pk ⟨rfl, cA, rfl, h2⟩
      · have tu : Tups H3 (upd (upd H3 q (.tup [.str t.2.nm, .ref cA])) B (.lst (ps.map V.ref ++ [V.ref q]))) := (tups_new hq).trans (tups_upd hB2 fun _ z => by cases z)
        refine Paired.snoc (Paired.mapP pq fun p kv h => tu _ _ h) ?_
        have nq : q ≠ B := fun z => by rw [z, hBl] at hq; cases hq
        rw [upd_ne nq]
        exact upd_same
    · obtain ⟨s2, ps, kvs, hBl, pk, pq, lps⟩ := h
      have etk : ts.take (refsOf ts).length = ts := by
        unfold refsOf
        rw [List.length_map, List.take_length]
      rw [etk] at pk
      walk_at "rr"
      refine ⟨B, ps, kvs, rfl, SqL.of hBl, Paired.mapP pq fun p kv h => SqT.of h, fun dk hdk => ?_⟩
      rw [kv_merge pk htabs.nd]
      have s3 := s2.trans (Same.upd (o := .dK kvs) hdk)
      have hk : upd H2 dk (.dK kvs) dk = some (.dK kvs) := upd_same
      generalize upd H2 dk (.dK kvs) = H3 at s3 hk ⊢
      walk_at "rr"
      refine ⟨k_sz rfl, fun L hL => ?_⟩
      have s4 := s3.trans (Same.upd (o := .lst []) hL)
      have hk4 := lk_new (o := .lst []) hk hL
      have gL : upd H3 L (.lst []) L = some (.lst []) := upd_same
      have fL : H L = none := same_free s3 hL
      generalize upd H3 L (.lst []) = H4 at s4 hk4 gL ⊢
      obtain ⟨pr', ys, e, hp, dys⟩ := hpr.unT
      cases e
      have lys : ys.length = refs.length := by rw [dys.len, List.length_map]
      walk_at "rr"
      let Pv : Nat → L2.St → Hp → Prop := fun i σ H' => ∃ (Lx : Addr) (o4 o5 : Option V) (vs : List V), σ = [some (.ref l), some (.ref pr), some (.ref dk), some (.ref Lx), o4, o5, none, none] ∧ Same H4 H' ∧ H' Lx = some (.lst vs) ∧ H Lx = none ∧ DTs H' vs ((usesOf ts (refs.take i)).map useD) ∧ vs.length ≤ 3 * i
      refine ⟨pr, rfl, ⟨_, SqT.of (s4 _ _ hp)⟩, for_it (walk_tup (xs := ys)) Pv ⟨L, none, none, [], rfl, Same.refl _, gL, fL, .nil, by simp⟩ (fun i σ H' _ h => ?_) (fun i x σ H5 H6 hi h y => ?_) fun σ H5 h => ?_⟩
      · obtain ⟨_, _, _, _, _, s5, _⟩ := h
        exact SqT.of (s5 _ _ (s4 _ _ hp))
      · obtain ⟨Lx, o4, o5, vs, rfl, s5, gx, fx, dvs, lvs⟩ := h
        obtain ⟨rfl, y⟩ := y
        have e : ys[i]? = some x := y
        obtain ⟨d0, hd0, dx⟩ := dys.at_ e
        rw [List.getElem?_map] at hd0
        obtain ⟨r, hr0, rfl⟩ := Option.map_eq_some_iff.mp hd0
        obtain ⟨xa, xs, rfl, hxa, dxs⟩ := dx.unT
        obtain ⟨v1, v2, rfl⟩ : ∃ v1 v2, xs = [v1, v2] := by
          have := dxs.len
          match xs, this with
          | [a, b], _ => exact ⟨a, b, rfl⟩
        cases dxs with
        | cons a1 a2 =>
        cases a2 with
        | cons a2 a3 =>
        obtain rfl := a1.unS
        obtain rfl := a2.unS
        refine k_gTup (SqT.of (s5 _ _ (s4 _ _ hxa))) rfl ?_
        obtain ⟨c, hc1, hc2⟩ := kv_get pk (hrf r (List.mem_of_getElem? hr0))
        have hc5 := s5 _ _ (s4 _ _ hc2)
        walk_at "rr"
        refine k_dgS (s5 _ _ hk4) hc1 ?_
        walk_at "rr"
        refine ⟨c, rfl, ⟨_, SqT.of hc5⟩, fun B2 hB2 => ?_⟩
        have lcs : (colsOf ts r.2).length ≤ 3 := by
          obtain ⟨x, hx, hn⟩ := hrf r (List.mem_of_getElem? hr0)
          unfold colsOf
          cases ef : ts.find? (fun x => decide (x.2.nm = r.2)) with
          | none => simp
          | some z => exact (htabs.ok z (List.mem_of_find?_eq_some ef)).c3
        refine lc_it (walk_tup (xs := (colsOf ts r.2).map V.str)) (fun j H' => Same H6 H' ∧ ∃ ws : List V, H' B2 = some (.lst ws) ∧ DTs H' ws (((colsOf ts r.2).take j).map fun c => useD (r.1, c)) ∧ ws.length = j) ⟨Same.upd hB2, [], upd_same, .nil, rfl⟩ (fun j H' _ h => SqT.of (h.1 _ _ hc5)) (fun j x H7 H8 hj h y => ?_) fun H7 h => ?_
        · obtain ⟨s7, ws, gw, dws, lws⟩ := h
          obtain ⟨rfl, y⟩ := y
          have e : ((colsOf ts r.2).map V.str)[j]? = some x := y
          rw [List.getElem?_map] at e
          obtain ⟨z, hz, rfl⟩ := Option.map_eq_some_iff.mp e
          have hj3 : j < (colsOf ts r.2).length := (List.getElem?_eq_some_iff.mp hz).1
          walk_at "rr"
          refine ⟨rfl, k_yes ?_⟩
          walk_at "rr"
          refine ⟨k_sz rfl, fun q hq => ?_⟩
          have gw2 := lk_new (o := .tup [.str r.1, .str z]) gw hq
          have t1 : Tups H8 (upd H8 q (.tup [.str r.1, .str z])) := tups_new hq
          have t2 : Tups (upd H8 q (.tup [.str r.1, .str z])) (upd (upd H8 q (.tup [.str r.1, .str z])) B2 (.lst (ws ++ [V.ref q]))) := tups_upd gw2 fun _ z => by cases z
          refine ⟨_, gw2, k_szL (by omega), same_off (s7.trans (Same.upd hq)) hB2, ws ++ [V.ref q], upd_same, ?_, by rw [List.length_append, lws]; rfl⟩
          rw [List.take_add_one, hz, List.map_append]
          exact (dws.keep (t1.trans t2)).app (.cons (.tup (t2 _ _ upd_same) (.cons (.str _) (.cons (.str _) .nil))) .nil)
        · obtain ⟨s7, ws, gw, dws, lws⟩ := h
          rw [List.length_map, List.take_length] at dws
          rw [List.length_map] at lws
          walk_at "rr"
          have gx7 := s7 _ _ gx
          refine ⟨Lx, B2, _, _, rfl, rfl, gx7, gw, by rw [sizeLine_eq]; omega, fun p9 hp9 => ?_⟩
          walk_at "rr"
          have s9 := s7.trans (Same.upd (o := .lst (vs ++ ws)) hp9)
          have t9 : Tups H7 (upd H7 p9 (.lst (vs ++ ws))) := tups_new hp9
          refine ⟨p9, _, _, vs ++ ws, rfl, s5.trans s9, upd_same, same_free (s4.trans (s5.trans s7)) hp9, ?_, by rw [List.length_append]; omega⟩
          have eu : usesOf ts (refs.take (i + 1)) = usesOf ts (refs.take i) ++ (colsOf ts r.2).map fun c => (r.1, c) := by
            unfold usesOf
            rw [List.take_add_one, hr0, List.flatMap_append]
            simp
          rw [eu, List.map_append, List.map_map]
          exact ((dvs.keep (Tups.same s7)).app dws).keep t9
      · obtain ⟨Lx, o4, o5, vs, rfl, s5, gx, fx, dvs, lvs⟩ := h
        have e : refs.take ys.length = refs := List.take_of_length_le (by omega)
        rw [e] at dvs
        walk_at "rr"
        exact k Lx H5 ⟨vs, gx, dvs⟩ fx (s4.trans s5)
end
end K11

set_option Elab.async false
set_option maxRecDepth 100000
set_option maxHeartbeats 4000000
set_option linter.unusedVariables false
namespace K11
open PySem PySem.Spec PyProof.Rows L2 Own
-- steps
local macro_rules | `(tactic| walk_at "lk") => `(tactic| first
  | assumption | exact upd_same
  | ((with_reducible refine' lk_new ?e (by assumption)); (case e => walk_at "lk"))
  | ((with_reducible refine' lk_ext (by assumption) ?e); (case e => walk_at "lk"))
  | ((with_reducible refine' lk_same (by assumption) ?e); (case e => walk_at "lk")))
local macro_rules | `(tactic| walk_at "sq") => `(tactic| first | assumption | exact SqL.of (by walk_at "lk") | exact SqT.of (by walk_at "lk"))
local macro_rules | `(tactic| walk_at "r1") => `(tactic| first
  | with_reducible refine k_seq ?_ | with_reducible refine k_asg ?_ | with_reducible refine k_ret ?_ | with_reducible refine k_drop ?_ | with_reducible refine k_next ?_ | with_reducible refine k_ifS ?_
  | ((with_reducible refine' k_var ?e ?_); (case e => exact rfl)) | with_reducible refine k_c ?_ | with_reducible refine k_op ?_ | with_reducible refine k_un ?_ | with_reducible refine k_test ?_ | with_reducible refine k_B ?_
  | with_reducible refine k_and ?_ | with_reducible refine k_or ?_ | with_reducible refine k_not ?_ | with_reducible refine k_andV ?_ | with_reducible refine k_orV ?_ | with_reducible refine k_notV ?_ | with_reducible refine k_if ?_
  | with_reducible refine k_nil ?_ | with_reducible refine k_cons ?_ | with_reducible refine k_tup ?_ | with_reducible refine k_lst ?_ | with_reducible refine k_call ?_ | with_reducible refine k_cb ?_ | with_reducible refine k_ck ?_
  | with_reducible refine k_par ?_ | with_reducible refine k_par1 ?_ | with_reducible refine k_tr ?_ | with_reducible refine k_rI0 ?_ | with_reducible refine k_rU ?_
  | with_reducible refine k_gN ?_ | with_reducible refine k_gS ?_ | with_reducible refine k_gNil ?_ | with_reducible refine k_gCons ?_ | with_reducible refine k_bm0 ?_ | with_reducible refine k_bm ?_
  | with_reducible refine k_for ?_ | with_reducible refine k_iL ?_ | with_reducible refine k_iT ?_ | with_reducible refine k_iR1 ?_ | ((with_reducible refine k_iR1i ?e ?_); (case e => first | decide | exact ⟨by omega, by omega⟩))
  | with_reducible refine k_max ?_ | with_reducible refine k_isB ?_ | with_reducible refine k_sl ?_ | with_reducible refine k_noP ?_ | with_reducible refine k_part ?_ | with_reducible refine k_partI ?_ | with_reducible refine k_revL ?_
  | ((with_reducible refine' k_ixqT ?e ?f ?_); (case e => walk_at "sq"); (case f => first | exact rfl | exact atI_head))
  | ((with_reducible refine' k_ixqL ?e ?f ?_); (case e => walk_at "sq"); (case f => first | exact rfl | exact atI_head))
  | ((with_reducible refine' k_lenL ?e ?_); (case e => walk_at "sq"))
  | ((with_reducible refine' k_lenT ?e ?_); (case e => walk_at "sq"))
  | ((with_reducible refine' k_ixL ?e ?f ?_); (case e => walk_at "sq"); (case f => first | exact rfl | exact atI_head))
  | ((with_reducible refine' k_ixT ?e ?f ?_); (case e => walk_at "sq"); (case f => first | exact rfl | exact atI_head))
  | ((with_reducible refine k_eq ?e ?_); (case e => exact rfl)) | ((with_reducible refine k_ne ?e ?_); (case e => exact rfl))
  | ((with_reducible refine k_rI ?e ?_); (case e => first | assumption | omega | decide | exact ⟨by omega, by omega⟩ | exact .inl ⟨by omega, by omega⟩ | exact .inr ⟨by omega, by omega⟩)))
local macro_rules | `(tactic| walk_at "rd") => `(tactic| repeat walk_at "r1")
local macro_rules | `(tactic| walk_at "r2") => `(tactic| first
  | walk_at "r1"
  | with_reducible refine k_ifTt ?_ | with_reducible refine k_ifFf ?_ | with_reducible refine k_ifNt ?_ | with_reducible refine k_ifNf ?_
  | with_reducible refine k_makeR ?_ | with_reducible refine k_tJ ?_ | with_reducible refine k_tJc ?_ | with_reducible refine k_tJn ?_ | with_reducible refine k_fmt ?_ | with_reducible refine k_lc ?_ | with_reducible refine k_din ?_ | with_reducible refine k_fld ?_ | with_reducible refine k_dget ?_
  | with_reducible refine k_dput ?_
  | with_reducible refine k_isNv ?_
  | with_reducible refine k_notNv ?_
  | with_reducible refine k_str ?_
  | with_reducible refine k_enumT ?_
  | with_reducible refine k_zipA ?_
  | with_reducible refine k_chain ?_
  | ((with_reducible refine' k_dgS ?e dkv_cells ?_); (case e => walk_at "lk"))
  | ((with_reducible refine' k_dgS ?e dkv_mixed ?_); (case e => walk_at "lk"))
  | ((with_reducible refine' k_dgS ?e dkv_turn ?_); (case e => walk_at "lk")))
local macro_rules | `(tactic| walk_at "rr") => `(tactic| repeat walk_at "r2")
-- steps end
theorem PT_imp {X : Cx} {e : Expr} {t t' : TT} (p : PT X e t) (h : ∀ σ H Q, t' σ H Q → t σ H Q) : PT X e t' := ⟨fun pins s σ H Q I q => p.run pins s σ H Q I (h σ H Q q)⟩
/-- is a use one of the statement's own -/
def tTst (K : PySem.W.Frag) : TT := fun σ H QB => ∃ (kind a0 t0 al co : Str) (pr q0 x : Addr) (rest : List V) (s0 s2 s3 s5 s6 s7 s8 s10 s11 : Option V), σ = [s0, some (.str kind), s2, s3, some (.ref pr), s5, s6, s7, s8, some (.ref x), s10, s11] ∧ H x = some (.tup [.str al, .str co]) ∧
  H pr = some (.tup (.ref q0 :: rest)) ∧ H q0 = some (.tup [.str a0, .str t0]) ∧ QB (decide (kind = "insert") || decide (al = a0)) H
structure SetsOk (kind : Str) (cs : List Str) (us : List Use) (a0 : Str) (sets : List Stg) : Prop where
  del : kind = "delete" → sets = []
  ins : kind = "insert" → sets.map Stg.col = cs
  upd : kind = "update" → sets ≠ [] ∧ (sets.map Stg.col).Pairwise sLt ∧ ∀ z ∈ sets.map Stg.col, z ∈ cs
  src : ∀ s ∈ sets, Sml s.k ∧ ∀ u, s.src = some u → u ∈ us ∧ (kind ≠ "insert" → u.1 = a0)
section
variable {P : Program} {w : World} {K : PySem.W.Frag} {mg : Str → Option Value} {g0 : Heap}
abbrev s_settings : Stmt := top 79
theorem sc_settings : FnScope ["_law_deck_here", "_law_kind_here", "_law_columns", "_law_uses_here", "_law_pairs", "_law_own", "_law_set_here", "_law_some", "_law_changes", "_law_use", "_law_column", "_law_one"] ["_law_deck_here", "_law_kind_here", "_law_columns", "_law_uses_here", "_law_pairs"] (defScope s_settings) :=
  ⟨rfl, rfl, rfl, by decide +kernel, rfl, by decide +kernel, by decide +kernel⟩
def spSettings : Sp := fun vs H Q _ => ∃ (d c cA l pr q0 : Addr) (b : Int) (kind a0 t0 : Str) (cs : List Str) (us : List Use) (rest : List V), vs = [.ref d, .str kind, .ref cA, .ref l, .ref pr] ∧ DeckE d c b H ∧ b ≤ 900000 ∧ H cA = some (.tup (cs.map V.str)) ∧ 1 ≤ cs.length ∧ cs.length ≤ 3 ∧ cs.Nodup ∧
  UsesAt H l us ∧ ¬ Dk d c l ∧ us.length ≤ 100 ∧ H pr = some (.tup (.ref q0 :: rest)) ∧ H q0 = some (.tup [.str a0, .str t0]) ∧ (∃ u ∈ us, u.1 = a0) ∧ (kind = "update" ∨ kind = "delete" ∨ kind = "insert") ∧
  ∀ (a : Addr) (sets : List Stg) (H' : Hp), SetsOk kind cs us a0 sets → DT H' (.ref a) (.tuple (sets.map Stg.d)) → DeckE d c (b + 60) H' → Ext (Dk d c) H H' → Q (.ref a) H'
theorem ok_settings {f : Addr} {fd : FuncData} (F : Fun K "_law_settings" "_law_settings" s_settings f fd) (z_list : mg "list" = none) (z_tuple : mg "tuple" = none) (z_sorted : mg "sorted" = none) (z_zip : mg "zip" = none) (z_int : mg "int" = none)
    (C_draw : Cal P w K mg g0 "_law_draw" 1 ["_law_deck_here", "_law_bound"] spDraw)
    (C_pick : Cal P w K mg g0 "_law_pick" 2 ["_law_deck_here", "_law_some"] spPick) (C_integer : Cal P w K mg g0 "_law_integer" 2 ["_law_deck_here"] spInteger) : GOk P w K mg g0 CX0 3 f fd ["_law_deck_here", "_law_kind_here", "_law_columns", "_law_uses_here", "_law_pairs"] spSettings := by
  have nd := sc_settings.nd
  refine okG F sc_settings (fun vs H Q E h => ?_) (fun cdv A up s H vs Q E qt hr h => ?_)
  · obtain ⟨d, c, cA, l, pr, q0, b, kind, a0, t0, cs, us, rest, rfl, _⟩ := h
    rfl
  · obtain ⟨d, c, cA, l, pr, q0, b, kind, a0, t0, cs, us, rest, rfl, D, hb, hcA, c1, c3, cnd, hus, nl, lus, hpr, hq0, hown, hkind, k⟩ := h
    refine ⟨_, (pss_cons (ps_set (i := 5) nd rfl (Or.inr rfl) (pe_lc (own := [("_law_use", 9)]) (g := (gName 9)) (tt := tTst K) (te := (tVar 9)) (by rfl) nd (pi_list (pv 3)) (blkOk_by (own := [("_law_use", 9)]) (N := ["_law_deck_here", "_law_kind_here", "_law_columns", "_law_uses_here", "_law_pairs", "_law_own", "_law_set_here", "_law_some", "_law_changes", "_law_use", "_law_column", "_law_one"]) (sc := defScope s_settings) (by decide +kernel)) (fun _ _ _ _ _ => by exact (pg_name (i := 9) nd rfl (Or.inl rfl))) (fun _ _ _ _ _ => by exact (pts_one (PT_imp (PW.pt (pw_or (pt_cmpR op_eq (pv 1) pe_str (nomark _)) (pw_or1 (pt_cmpR op_eq (pe_ix ix_seq (pv 9) pe_int (fun _ _ => rfl)) (pe_ix ix_seq (pe_ix ix_seq (pv 4) pe_int (fun _ _ => rfl)) pe_int (fun _ _ => rfl)) (nomark _))))) (t' := tTst K) (fun σ H QB h => by
            obtain ⟨kind, a0, t0, al, co, pr, q0, x, rest, s0, s2, s3, s5, s6, s7, s8, s10, s11, rfl, hx, hp, hq, q⟩ := h
            walk_at "rr"
            refine k_iteD (fun e => ?_) fun e => ?_
            · rw [decide_eq_true (V.str.inj e), Bool.true_or] at q
              exact q
            · rw [decide_eq_false (fun z => e (congrArg V.str z)), Bool.false_or] at q
              walk_at "rr"
              rw [show decide (V.str al = V.str a0) = decide (al = a0) from decide_eq_decide.mpr ⟨V.str.inj, congrArg V.str⟩]
              exact q)))) (fun _ _ _ _ _ => by exact (pv 9))))
        (pss_cons (ps_set (i := 6) nd rfl (Or.inl rfl) (pe_callTy c_list (by rfl) z_list (by decide +kernel) (pa_cons (pv 2) pa_nil)))
        (Evl.pss_cut (ps_if (pt_cmpR op_eq (pv 1) pe_str (nomark _)) (pss_one (ps_set (i := 6) nd rfl (Or.inl rfl) (pe_callB cr_sortedS (by rfl) z_sorted (by decide +kernel) (pa_cons (pe_orT (pe_lc (own := [("_law_column", 10)]) (g := (gName 10)) (tt := (tTest (tOp rEq (tCall spDraw [] E0 (tCons (tVar 0) (tCons (tC (.int 2)) tNil))) (tC (.int 0))))) (te := (tVar 10)) (by rfl) nd (pi_tup (pv 2)) (blkOk_by (own := [("_law_column", 10)]) (N := ["_law_deck_here", "_law_kind_here", "_law_columns", "_law_uses_here", "_law_pairs", "_law_own", "_law_set_here", "_law_some", "_law_changes", "_law_use", "_law_column", "_law_one"]) (sc := defScope s_settings) (by decide +kernel)) (fun _ _ _ _ _ => by exact (pg_name (i := 10) nd rfl (Or.inl rfl))) (fun _ _ _ _ _ => by exact (pts_one (pt_cmpR op_eq (pe_c C_draw qt (hr.mono (by decide)) (pa_cons (pv 0) (pa_cons pe_int pa_nil))) pe_int (nomark _)))) (fun _ _ _ _ _ => by exact (pv 10))) (pe_one (pe_lst (pa_cons (pe_ix ix_seq (pv 2) pe_int (fun _ _ => rfl)) pa_nil)))) pa_nil)))) pss_nil)
        (pss_cons (ps_setLc (i := 7) (own := [("_law_column", 10)]) (g := (gName 10)) (tt := tYes) (te := (tOp (rIx K) (tLst (tCons (tCall spPick [] E0 (tCons (tVar 0) (tCons (tVar 5) tNil))) (tCons (tCall spPick [] E0 (tCons (tVar 0) (tCons (tVar 5) tNil))) (tCons (tC .non) tNil)))) (tCall spDraw [] E0 (tCons (tVar 0) (tCons (tC (.int 3)) tNil))))) (by rfl) nd rfl rfl (sw_true rfl rfl rfl (by decide +kernel)) (pi_list (pv 6)) (blkOk_by (own := [("_law_column", 10)]) (N := ["_law_deck_here", "_law_kind_here", "_law_columns", "_law_uses_here", "_law_pairs", "_law_own", "_law_set_here", "_law_some", "_law_changes", "_law_use", "_law_column", "_law_one"]) (sc := defScope s_settings) (by decide +kernel)) (fun _ _ _ _ _ => by exact (pg_name (i := 10) nd rfl (Or.inl rfl))) (fun _ _ _ _ _ => by exact pts_nil) (fun _ _ _ _ _ => by exact (pe_ix (ix_seqK (K := K) rfl) (pe_lst (pa_cons (pe_c C_pick qt (hr.mono (by decide)) (pa_cons (pv 0) (pa_cons (pv 5) pa_nil))) (pa_cons (pe_c C_pick qt (hr.mono (by decide)) (pa_cons (pv 0) (pa_cons (pv 5) pa_nil))) (pa_cons pe_non pa_nil)))) (pe_c C_draw qt (hr.mono (by decide)) (pa_cons (pv 0) (pa_cons pe_int pa_nil))) (fun _ _ => rfl))))
        (pss_cons (ps_setLc (i := 8) (own := [("_law_column", 10), ("_law_one", 11)]) (g := (gTup K 2 (gCons (gName 10) (gCons (gName 11) gNil)))) (tt := tYes) (te := (tTup (tCons (tVar 10) (tCons (tVar 11) (tCons (tCall spInteger [] E0 (tCons (tVar 0) tNil)) tNil))))) (by rfl) nd rfl rfl (sw_true rfl rfl rfl (by decide +kernel)) (pi_zip (by rfl) z_zip (pa_cons (pv 6) (pa_cons (pv 7) pa_nil))) (blkOk_by (own := [("_law_column", 10), ("_law_one", 11)]) (N := ["_law_deck_here", "_law_kind_here", "_law_columns", "_law_uses_here", "_law_pairs", "_law_own", "_law_set_here", "_law_some", "_law_changes", "_law_use", "_law_column", "_law_one"]) (sc := defScope s_settings) (by decide +kernel)) (fun _ _ _ _ _ => by exact (pg_tup rfl (pgs_cons (pg_name (i := 10) nd rfl (Or.inl rfl)) (pgs_cons (pg_name (i := 11) nd rfl (Or.inl rfl)) pgs_nil)))) (fun _ _ _ _ _ => by exact pts_nil) (fun _ _ _ _ _ => by exact (pe_tup (pa_cons (pv 10) (pa_cons (pv 11) (pa_cons (pe_c C_integer qt (hr.mono (by decide)) (pa_cons (pv 0) pa_nil)) pa_nil))))))
        (pss_one (ps_ret (pe_callTy call_tuple_of (by rfl) z_tuple (by decide +kernel) (pa_cons (pe_slice sl_list (pv 8) po_none (po_some (pe_op op_mul pe_int (pe_callTy call_int1 (by rfl) z_int (by decide +kernel) (pa_cons (pe_cmpR op_ne (pv 1) pe_str (nomark _)) pa_nil))))) pa_nil))))))))), ?_⟩
    obtain ⟨vs, hl, hvs⟩ := hus
    have lvs : vs.length = us.length := by rw [hvs.len, List.length_map]
    let pf : Use → Bool := fun u => decide (kind = "insert") || decide (u.1 = a0)
    walk_at "rr"
    refine ⟨l, rfl, ⟨_, SqL.of hl⟩, fun B hB => ?_⟩
    refine lc_it (walk_list (xs := vs)) (fun i H' => Same H H' ∧ ∃ ws : List V, H' B = some (.lst ws) ∧ DTs H' ws (((us.take i).filter pf).map useD) ∧ ws.length ≤ i) ⟨Same.upd hB, [], upd_same, .nil, Nat.le_refl _⟩ (fun i H' _ h => SqL.of (h.1 _ _ hl)) (fun i x H2 H3 hi h y => ?_) fun H2 h => ?_
    · obtain ⟨s2, ws, hBl, dws, lws⟩ := h
      obtain ⟨rfl, y⟩ := y
      have e : vs[i]? = some x := y
      obtain ⟨d0, hd0, dx⟩ := hvs.at_ e
      rw [List.getElem?_map] at hd0
      obtain ⟨u, hu0, rfl⟩ := Option.map_eq_some_iff.mp hd0
      have dx3 := dx.keep (Tups.same s2)
      obtain ⟨xa, xs, rfl, hxa, dxs⟩ := dx3.unT
      obtain ⟨v1, v2, rfl⟩ : ∃ v1 v2, xs = [v1, v2] := by
        have := dxs.len
        match xs, this with
        | [a, b], _ => exact ⟨a, b, rfl⟩
      cases dxs with
      | cons a1 a2 =>
      cases a2 with
      | cons a2 a3 =>
      obtain rfl := a1.unS
      obtain rfl := a2.unS
      have tk : (us.take (i + 1)).filter pf = (us.take i).filter pf ++ (if pf u = true then [u] else []) := by
        rw [List.take_add_one, hu0, List.filter_append]
        congr 1
        show List.filter pf [u] = _
        rw [List.filter_cons]
        rfl
      walk_at "rr"
      refine ⟨rfl, ?_⟩
      walk_at "rr"
      refine ⟨kind, a0, t0, u.1, u.2, pr, q0, xa, rest, _, _, _, _, _, _, _, _, _, rfl, hxa, s2 _ _ hpr, s2 _ _ hq0, ?_⟩
      cases hp : pf u with
      | true =>
        rw [show (decide (kind = "insert") || decide (u.1 = a0)) = true from hp]
        refine iteT ?_
        walk_at "rr"
        have tu : Tups H3 (upd H3 B (.lst (ws ++ [V.ref xa]))) := tups_upd hBl fun _ z => by cases z
        refine ⟨_, hBl, k_szL (by omega), same_off s2 hB, ws ++ [V.ref xa], upd_same, ?_, by rw [List.length_append, List.length_singleton]; omega⟩
        rw [tk, hp, if_pos rfl, List.map_append]
        exact (dws.keep tu).app (.cons (dx3.keep tu) .nil)
      | false =>
        rw [show (decide (kind = "insert") || decide (u.1 = a0)) = false from hp]
        refine iteF ?_
        refine ⟨s2, ws, hBl, ?_, Nat.le_succ_of_le lws⟩
        rw [tk, hp, if_neg Bool.false_ne_true, List.append_nil]
        exact dws
    · obtain ⟨s2, ws, hBl, dws, lws⟩ := h
      have etk : us.take vs.length = us := List.take_of_length_le (by omega)
      rw [etk] at dws
      have own : ∀ u ∈ us.filter pf, u ∈ us ∧ (kind ≠ "insert" → u.1 = a0) := fun u hu => by
        obtain ⟨h1, h2⟩ := List.mem_filter.mp hu
        refine ⟨h1, fun ne => ?_⟩
        have : (decide (kind = "insert") || decide (u.1 = a0)) = true := h2
        rw [decide_eq_false ne, Bool.false_or] at this
        exact of_decide_eq_true this
      have ne0 : 0 < (us.filter pf).length := by
        obtain ⟨u, hu, e⟩ := hown
        exact List.length_pos_of_mem (List.mem_filter.mpr ⟨hu, by show (decide (kind = "insert") || decide (u.1 = a0)) = true; rw [decide_eq_true e, Bool.or_true]⟩)
      have lo : ws.length = (us.filter pf).length := by rw [dws.len, List.length_map]
      have lf : (us.filter pf).length ≤ 100 := Nat.le_trans (List.length_filter_le _ _) lus
      generalize us.filter pf = os at dws own ne0 lo lf
      have D2 := D.same s2
      have nB : ¬ Dk d c B := D.off hB
      walk_at "rr"
      refine k_listT (SqT.of (s2 _ _ hcA)) fun S hS => ?_
      have nS : ¬ Dk d c S := D2.off hS
      have nBS : B ≠ S := ne_of_none hBl hS
      have s3 := s2.trans (Same.upd (o := .lst (cs.map V.str)) hS)
      have gS : upd H2 S (.lst (cs.map V.str)) S = some (.lst (cs.map V.str)) := upd_same
      have gB := lk_new (o := .lst (cs.map V.str)) hBl hS
      have dws3 := dws.keep (tups_new (o := .lst (cs.map V.str)) hS)
      have D3 := D2.new (o := .lst (cs.map V.str)) hS
      generalize upd H2 S (.lst (cs.map V.str)) = H3 at s3 gS gB dws3 D3 ⊢
      walk_at "rr"
      refine ⟨fun σ' H' => ∃ (S : Addr) (zs : List Str) (o10 : Option V), σ' = [some (.ref d), some (.str kind), some (.ref cA), some (.ref l), some (.ref pr), some (.ref B), some (.ref S), none, none, none, o10, none] ∧ H' S = some (.lst (zs.map V.str)) ∧ ¬ Dk d c S ∧ (kind = "update" → zs ≠ [] ∧ zs.Pairwise sLt ∧ ∀ z ∈ zs, z ∈ cs) ∧ (kind ≠ "update" → zs = cs) ∧ zs.length ≤ 3 ∧
        H' B = some (.lst ws) ∧ DTs H' ws (os.map useD) ∧ DeckE d c (b + 5) H' ∧ Ext (Dk d c) H H', ?_, ?_⟩
      · walk_at "rr"
        refine k_iteD (fun e => ?_) fun e => ?_
        · walk_at "rr"
          unfold tOrT tLc
          walk_at "rr"
          have hcA3 := s3 _ _ hcA
          have fin : ∀ (G : Addr) (gs : List Str) (H5 : Hp) (b' : Int), H5 G = some (.lst (gs.map V.str)) → gs.Sublist cs → gs ≠ [] → DeckE d c b' H5 → b' ≤ b + 5 → Ext (Dk d c) H3 H5 → ∀ (ys : List Str) (q : Addr), ys.Perm gs → sortedS ys = true → H5 q = none →
              ∃ (S : Addr) (zs : List Str) (o10 : Option V), [some (V.ref d), some (.str kind), some (.ref cA), some (.ref l), some (.ref pr), some (.ref B), some (.ref q), none, none, none, none, none] = [some (V.ref d), some (.str kind), some (.ref cA), some (.ref l), some (.ref pr), some (.ref B), some (.ref S), none, none, none, o10, none] ∧
                upd H5 q (.lst (ys.map V.str)) S = some (.lst (zs.map V.str)) ∧ ¬ Dk d c S ∧ (kind = "update" → zs ≠ [] ∧ zs.Pairwise sLt ∧ ∀ z ∈ zs, z ∈ cs) ∧ (kind ≠ "update" → zs = cs) ∧ zs.length ≤ 3 ∧
                upd H5 q (.lst (ys.map V.str)) B = some (.lst ws) ∧ DTs (upd H5 q (.lst (ys.map V.str))) ws (os.map useD) ∧ DeckE d c (b + 5) (upd H5 q (.lst (ys.map V.str))) ∧ Ext (Dk d c) H (upd H5 q (.lst (ys.map V.str))) := by
            intro G gs H5 b' hG sb ne D5 lb x5 ys q pm hs hq
            refine ⟨q, ys, none, rfl, upd_same, D5.off hq, fun _ => ⟨fun z => ?_, ris2 hs (pm.nodup_iff.mpr (cnd.sublist sb)), fun z hz => sb.subset (pm.mem_iff.mp hz)⟩, fun z => absurd (V.str.inj e) z, ?_, lk_new (x5.2 _ _ nB gB) hq, (dws3.keep x5.1).keep (tups_new hq), (D5.mono lb).new hq, ((Same.ext s3).trans x5).trans (ext_new hq)⟩
            · rw [z] at pm
              exact ne (List.nil_perm.mp pm)
            · rw [pm.length_eq]
              exact Nat.le_trans sb.length_le c3
          refine ⟨cA, rfl, ⟨_, SqT.of hcA3⟩, fun G hG => ?_⟩
          have nG : ¬ Dk d c G := D3.off hG
          refine lc_it (walk_tup (xs := cs.map V.str)) (fun j H' => ∃ gs : List Str, H' G = some (.lst (gs.map V.str)) ∧ gs.Sublist (cs.take j) ∧ DeckE d c (b + j) H' ∧ Ext (Dk d c) H3 H')
            ⟨[], upd_same, List.nil_sublist _, by simpa using D3.new hG, ext_new hG⟩ (fun j H' _ h => ?_) (fun j x H5 H6 hj h y => ?_) fun H5 h => ?_
          · obtain ⟨_, _, _, _, x4⟩ := h
            exact SqT.of (x4.1 _ _ hcA3)
          · obtain ⟨gs, hGs, sb, D4, x4⟩ := h
            obtain ⟨rfl, y⟩ := y
            have e : (cs.map V.str)[j]? = some x := y
            rw [List.getElem?_map] at e
            obtain ⟨z, hz, rfl⟩ := Option.map_eq_some_iff.mp e
            have hj3 : j < cs.length := (List.getElem?_eq_some_iff.mp hz).1
            have lg : gs.length ≤ 3 := by
              have := sb.length_le
              rw [List.length_take] at this
              omega
            have tk : cs.take (j + 1) = cs.take j ++ [z] := by
              rw [List.take_add_one, hz]
              rfl
            walk_at "rr"
            refine ⟨rfl, ?_⟩
            walk_at "rr"
            refine ⟨d, c, _, 2, rfl, D4, by omega, by decide, by decide, fun r3 H7 r30 r31 D7 x7 => ?_⟩
            have hG7 := x7.2 _ _ nG hGs
            walk_at "rr"
            refine k_iteD (fun _ => ?_) fun _ => ?_
            · walk_at "rr"
              refine ⟨_, hG7, k_szL (by rw [List.length_map]; omega), gs ++ [z], by rw [upd_same, List.map_append]; rfl, ?_, (D7.offL nG).mono (by omega), ext_off (x4.trans x7) hG⟩
              rw [tk]
              exact List.Sublist.append sb (List.Sublist.refl _)
            · exact ⟨gs, hG7, by rw [tk]; exact sb.trans (List.sublist_append_left _ _), D7.mono (by omega), x4.trans x7⟩
          · obtain ⟨gs, hGs, sb, D4, x4⟩ := h
            rw [List.length_map, List.take_length] at sb
            rw [List.length_map] at D4
            have lg : gs.length ≤ 3 := Nat.le_trans sb.length_le c3
            refine ⟨_, .inl ⟨_, SqL.of hGs, rfl⟩, ?_⟩
            match gs, hGs, sb, lg with
            | g :: gs, hGs, sb, lg =>
              refine iteT ?_
              walk_at "rr"
              refine ⟨G, g :: gs, rfl, SqL.of hGs, by omega, fun ys q pm hs hq => ?_⟩
              walk_at "rr"
              exact fin G (g :: gs) H5 _ hGs sb (List.cons_ne_nil _ _) D4 (by omega) x4 ys q pm hs hq
            | [], hGs, sb, lg =>
              refine iteF ?_
              walk_at "rr"
              match cs, c1, hcA3, x4, D4, c3, fin with
              | z0 :: cs, _, hcA3, x4, D4, c3, fin =>
                have hcA5 : H5 cA = some (.tup (.str z0 :: cs.map V.str)) := x4.1 _ _ hcA3
                refine k_ixqT (SqT.of hcA5) atI_head ?_
                walk_at "rr"
                refine ⟨k_sz rfl, fun p9 hp9 => ?_⟩
                walk_at "rr"
                refine ⟨p9, [z0], rfl, SqL.of upd_same, by show 1 < 64; decide, fun ys q pm hs hq => ?_⟩
                walk_at "rr"
                exact fin p9 [z0] _ _ upd_same (List.Sublist.cons_cons z0 (List.nil_sublist _)) (List.cons_ne_nil _ _) (D4.new hp9) (by omega) (x4.trans (ext_new hp9)) ys q pm hs hq
        · walk_at "rr"
          exact ⟨S, cs, none, rfl, gS, nS, fun z => absurd (congrArg V.str z) e, fun _ => rfl, c3, gB, dws3, D3.mono (by omega), Same.ext s3⟩
      · rintro σ' H4 ⟨S, zs, o10, rfl, gS, nS, z1, z2, lz, gB, dws4, D4, e4⟩
        walk_at "rr"
        refine ⟨S, rfl, ⟨_, SqL.of gS⟩, fun M hM => ?_⟩
        have nM : ¬ Dk d c M := D4.off hM
        have nSM : S ≠ M := ne_of_none gS hM
        have nBM : B ≠ M := ne_of_none gB hM
        have t0 : Tups H4 (upd H4 M (.lst [])) := tups_new hM
        refine lc_it (walk_list (xs := zs.map V.str)) (fun i H' => ∃ (rs : List V) (op : List (Option Use)), H' M = some (.lst rs) ∧ DTs H' rs (op.map optU) ∧ op.length = i ∧ (∀ o ∈ op, ∀ u, o = some u → u ∈ os) ∧ DeckE d c (b + 5 + 4 * i) H' ∧ Ext (Dk d c) H4 H')
          ⟨[], [], upd_same, .nil, rfl, (fun _ z => by cases z), (D4.new hM).mono (by omega), ext_new hM⟩ (fun i H' _ h => ?_) (fun i x H5 H6 hi h y => ?_) fun H5 h => ?_
        · obtain ⟨_, _, _, _, _, _, _, x5⟩ := h
          exact SqL.of (x5.2 _ _ nS gS)
        · obtain ⟨rs, op, hMr, drs, lop, hop, D5, x5⟩ := h
          obtain ⟨rfl, y⟩ := y
          have e : (zs.map V.str)[i]? = some x := y
          rw [List.getElem?_map] at e
          obtain ⟨z, hz, rfl⟩ := Option.map_eq_some_iff.mp e
          have hi3 : i < zs.length := (List.getElem?_eq_some_iff.mp hz).1
          walk_at "rr"
          refine ⟨rfl, k_yes ?_⟩
          walk_at "rr"
          refine ⟨d, c, B, _, ws, rfl, D5, by omega, .inl ⟨x5.2 _ _ nB gB, nB⟩, by omega, by omega, fun x1 H7 hx1 D7 x7 => ?_⟩
          have x57 := x5.trans x7
          obtain ⟨u1, m1, d1⟩ := pick_use (dws4.keep x57.1) hx1
          walk_at "rr"
          refine ⟨d, c, B, _, ws, rfl, D7, by omega, .inl ⟨x57.2 _ _ nB gB, nB⟩, by omega, by omega, fun x2 H8 hx2 D8 x8 => ?_⟩
          have x58 := x57.trans x8
          obtain ⟨u2, m2, d2⟩ := pick_use (dws4.keep x58.1) hx2
          have d18 := d1.keep x8.1
          walk_at "rr"
          refine ⟨k_sz rfl, fun p9 hp9 => ?_⟩
          have D9 := D8.new (o := .lst [x1, x2, .non]) hp9
          have n9 : ¬ Dk d c p9 := D8.off hp9
          have x89 : Ext (Dk d c) H8 (upd H8 p9 (.lst [x1, x2, .non])) := ext_new hp9
          have g9 : upd H8 p9 (.lst [x1, x2, .non]) p9 = some (.lst [x1, x2, .non]) := upd_same
          generalize upd H8 p9 _ = H9 at D9 x89 g9 ⊢
          walk_at "rr"
          refine ⟨d, c, _, 3, rfl, D9, by omega, by decide, by decide, fun r H10 r0 r1 D10 x10 => ?_⟩
          have g10 := x10.2 _ _ n9 g9
          have x8a := x89.trans x10
          walk_at "rr"
          obtain ⟨y, oy, hy, dy, my⟩ : ∃ (y : V) (oy : Option Use), atI [x1, x2, V.non] r = some y ∧ DT H10 y (optU oy) ∧ ∀ u, oy = some u → u ∈ os := by
            have : r = 0 ∨ r = 1 ∨ r = 2 := by omega
            rcases this with rfl | rfl | rfl
            · exact ⟨_, some u1, rfl, d18.keep x8a.1, fun u e => by cases e; exact m1⟩
            · exact ⟨_, some u2, rfl, d2.keep x8a.1, fun u e => by cases e; exact m2⟩
            · exact ⟨_, none, rfl, .non, fun u e => by cases e⟩
          refine k_ixqL (SqL.of g10) hy ?_
          walk_at "rr"
          have x5a := (x7.trans x8).trans x8a
          have hM10 := x5a.2 _ _ nM hMr
          have tu : Tups H10 (upd H10 M (.lst (rs ++ [y]))) := tups_upd hM10 fun _ z => by cases z
          have lrs : rs.length = i := by rw [drs.len, List.length_map, lop]
          refine ⟨_, hM10, k_szL (by omega), rs ++ [y], op ++ [oy], upd_same, ?_, by rw [List.length_append, lop]; rfl, fun o ho u eu => ?_, (D10.offL nM).mono (by omega), ext_off (x5.trans x5a) hM⟩
          · rw [List.map_append]
            exact ((drs.keep x5a.1).keep tu).app (.cons (dy.keep tu) .nil)
          · rcases List.mem_append.mp ho with ho | ho
            · exact hop o ho u eu
            · obtain rfl := List.mem_singleton.mp ho
              exact my u eu
        · obtain ⟨rs, op, hMr, drs, lop, hop, D5, x5⟩ := h
          rw [List.length_map] at lop D5
          have lrs : rs.length = zs.length := by rw [drs.len, List.length_map, lop]
          have gS5 := x5.2 _ _ nS gS
          walk_at "rr"
          unfold iZip
          walk_at "rr"
          refine ⟨S, M, _, rs, rfl, SqL.of gS5, SqL.of hMr, fun N hN => ?_⟩
          have nN : ¬ Dk d c N := D5.off hN
          refine lc_it (walk_zip (a := S) (b := M) (xs := zs.map V.str) (ys := rs) (n := zs.length) (by rw [List.length_map, lrs, Nat.min_self])) (fun i H' => ∃ (qs : List V) (sets : List Stg), H' N = some (.lst qs) ∧ DTs H' qs (sets.map Stg.d) ∧ sets.map Stg.col = zs.take i ∧ (∀ s ∈ sets, Sml s.k ∧ ∀ u, s.src = some u → u ∈ os) ∧ DeckE d c (b + 20 + 6 * i) H' ∧ Ext (Dk d c) H5 H')
            ⟨[], [], upd_same, .nil, rfl, (fun _ z => by cases z), (D5.new hN).mono (by omega), ext_new hN⟩ (fun i H' _ h => ?_) (fun i x H6 H7 hi h y => ?_) fun H6 h => ?_
          · obtain ⟨_, _, _, _, _, _, _, x6⟩ := h
            exact ⟨SqL.of (x6.2 _ _ nS gS5), SqL.of (x6.2 _ _ nM hMr)⟩
          · obtain ⟨qs, sets, hNq, dqs, scol, sok, D6, x6⟩ := h
            obtain ⟨T, xz, yo, rfl, hT, rfl, hxz, hyo⟩ := y
            have hxz : (zs.map V.str)[i]? = some xz := hxz
            have hyo : rs[i]? = some yo := hyo
            rw [List.getElem?_map] at hxz
            obtain ⟨z, hz, rfl⟩ := Option.map_eq_some_iff.mp hxz
            obtain ⟨dd, hdd, dyo⟩ := drs.at_ hyo
            rw [List.getElem?_map] at hdd
            obtain ⟨oy, hoy, rfl⟩ := Option.map_eq_some_iff.mp hdd
            have my := hop oy (List.mem_of_getElem? hoy)
            have lse : sets.length = i := by
              have : (sets.map Stg.col).length = (zs.take i).length := by rw [scol]
              rw [List.length_map, List.length_take] at this
              omega
            have lqs : qs.length = i := by rw [dqs.len, List.length_map, lse]
            refine k_gTup (SqT.of upd_same) rfl ?_
            walk_at "rr"
            refine ⟨rfl, k_yes ?_⟩
            walk_at "rr"
            refine ⟨d, c, _, rfl, D6.new hT, by omega, fun kk H8 sk D8 x8 => ?_⟩
            have x68 := (ext_new (M := Dk d c) (o := .tup [.str z, yo]) hT).trans x8
            walk_at "rr"
            refine ⟨k_sz rfl, fun a ha => ?_⟩
            have x69 := x68.trans (ext_new (M := Dk d c) (o := .tup [.str z, yo, .int kk]) ha)
            have D9 := D8.new (o := .tup [.str z, yo, .int kk]) ha
            have ga : upd H8 a (.tup [.str z, yo, .int kk]) a = some (.tup [.str z, yo, .int kk]) := upd_same
            generalize upd H8 a _ = H9 at x69 D9 ga ⊢
            have hN9 := x69.2 _ _ nN hNq
            have tu : Tups H9 (upd H9 N (.lst (qs ++ [V.ref a]))) := tups_upd hN9 fun _ z => by cases z
            refine ⟨_, hN9, k_szL (by omega), qs ++ [V.ref a], sets ++ [⟨z, oy, kk⟩], upd_same, ?_, ?_, fun st hst => ?_, (D9.offL nN).mono (by omega), ext_off (x6.trans x69) hN⟩
            · rw [List.map_append]
              exact ((dqs.keep x69.1).keep tu).app (.cons (.tup (tu _ _ ga) (.cons (.str _) (.cons (((dyo.keep x6.1).keep x69.1).keep tu) (.cons (.int _) .nil)))) .nil)
            · rw [List.map_append, scol, List.take_add_one, hz]
              rfl
            · rcases List.mem_append.mp hst with h | h
              · exact sok st h
              · obtain rfl := List.mem_singleton.mp h
                exact ⟨sk, my⟩
          · obtain ⟨qs, sets, hNq, dqs, scol, sok, D6, x6⟩ := h
            rw [List.take_length] at scol
            have lse : sets.length = zs.length := by
              have : (sets.map Stg.col).length = zs.length := by rw [scol]
              rwa [List.length_map] at this
            have lqs : qs.length = zs.length := by rw [dqs.len, List.length_map, lse]
            walk_at "rr"
            by_cases kd : kind = "delete"
            · rw [decide_eq_true (congrArg V.str kd)]
              refine .inr ⟨_, rfl, ?_⟩
              walk_at "rr"
              refine k_slL (SqL.of hNq) fun p8 hp8 => ?_
              walk_at "rr"
              rw [show cutV qs none (some ((3 : Int) * (if (!true) = true then 1 else 0))) = [] by simp [cutV, HT.sIx]]
              refine ⟨p8, _, rfl, .inl ⟨SqL.of upd_same, fun g hg => ?_⟩⟩
              walk_at "rr"
              exact k g [] _ ⟨fun _ => rfl, fun z => absurd (kd.symm.trans z) (by decide), fun z => absurd (kd.symm.trans z) (by decide), fun _ z => by cases z⟩ (.tup upd_same .nil) (((D6.new hp8).new hg).mono (by omega)) ((((e4.trans x5).trans x6).trans (ext_new hp8)).trans (ext_new hg))
            · rw [decide_eq_false fun z => kd (V.str.inj z)]
              refine .inr ⟨_, rfl, ?_⟩
              walk_at "rr"
              refine k_slL (SqL.of hNq) fun p8 hp8 => ?_
              walk_at "rr"
              rw [show cutV qs none (some ((3 : Int) * (if (!false) = true then 1 else 0))) = qs by
                unfold cutV
                have : HT.sIx qs.length qs.length (some ((3 : Int) * (if (!false) = true then 1 else 0))) = qs.length := by
                  simp [HT.sIx]
                  omega
                rw [this]
                simp [HT.sIx]]
              refine ⟨p8, _, rfl, .inl ⟨SqL.of upd_same, fun g hg => ?_⟩⟩
              walk_at "rr"
              have tu : Tups H6 (upd (upd H6 p8 (.lst qs)) g (.tup qs)) := (tups_new hp8).trans (tups_new hg)
              refine k g sets _ ⟨fun z => absurd z kd, fun z => ?_, fun z => ?_, fun st hst => ⟨(sok st hst).1, fun u eu => own u ((sok st hst).2 u eu)⟩⟩ (.tup upd_same (dqs.keep tu)) (((D6.new hp8).new hg).mono (by omega)) ((((e4.trans x5).trans x6).trans (ext_new hp8)).trans (ext_new hg))
              · rw [scol]
                exact z2 fun e => absurd (z.symm.trans e) (by decide)
              · obtain ⟨y1, y2, y3⟩ := z1 z
                rw [scol]
                refine ⟨fun e => y1 ?_, y2, y3⟩
                rw [e] at scol
                exact scol.symm
end
end K11

set_option Elab.async false
set_option maxRecDepth 100000
set_option linter.unusedVariables false
/-! xs[lo:hi:step] of lists -/
namespace Own
open PySem PySem.Spec PyProof.Rows L2
def pickV {α : Type} (xs : List α) (lo hi st : Option Int) : List α := (sliceRange (sliceBounds lo hi st xs.length).fst (sliceBounds lo hi st xs.length).snd.fst (sliceBounds lo hi st xs.length).snd.snd).filterMap fun i => xs[i]?
theorem pick_vals {xs : List V} {its : List Value} (h : Vals xs its) : ∀ is : List Nat, Vals (is.filterMap fun i => xs[i]?) (is.filterMap fun i => its[i]?)
  | [] => .nil
  | i :: is => by
    have ih := pick_vals h is
    by_cases hi : i < xs.length
    · have e1 : xs[i]? = some xs[i] := List.getElem?_eq_getElem hi
      obtain ⟨u, hu, ru⟩ := h.get e1
      rw [List.filterMap_cons_some e1, List.filterMap_cons_some hu]
      exact .cons ru ih
    · have e1 : xs[i]? = none := List.getElem?_eq_none (by omega)
      have e2 : its[i]? = none := List.getElem?_eq_none (by rw [← h.length]; omega)
      rw [List.filterMap_cons_none e1, List.filterMap_cons_none e2]
      exact ih
def tSl3 (K : PySem.W.Frag) (te : TE) (tl th ts : TO) : TE := fun σ H Q => te σ H fun x H1 => tl σ H1 fun l H2 => th σ H2 fun u H3 => ts σ H3 fun st H4 => ∃ a xs, x = V.ref a ∧ SqL K H4 a xs ∧ st ≠ some 0 ∧ (pickV xs l u st).length ≤ sizeLine ∧ ∀ p, H4 p = none → Q (.ref p) (upd H4 p (.lst (pickV xs l u st)))
theorem pe_slice3 {X : Cx} {e : Expr} {te : TE} {lo hi : Option Expr} {sx : Expr} {tl th ts : TO} {pos p2 : Pos} (he : PE X e te) (hl : PO X lo tl) (hu : PO X hi th) (hs : PO X (some sx) ts) : PE X (e.Subscript (Expr.Slice lo hi (some sx) p2) pos) (tSl3 X.K te tl th ts) := by
  constructor
  intro pins s σ H Q I h
  refine Subscript_ (thn (he.run pins s σ H _ I h) fun v s1 ⟨x, H1, I1, r1, q1⟩ => ?_)
  refine wpAny_Slice (thn (hl.run pins s1 σ H1 _ I1 q1) fun vl s2 ⟨l, H2, I2, pl, q2⟩ => ?_)
  refine thn (hu.run pins s2 σ H2 _ I2 q2) fun vu s3 ⟨u, H3, I3, pu, q3⟩ => ?_
  refine thn (hs.run pins s3 σ H3 _ I3 q3) fun vs s4 ⟨st, H4, I4, ps, q4⟩ => ?_
  obtain ⟨a, xs, rfl, hx, h0, hz, q⟩ := q4
  obtain rfl : v = Value.ref a := r1
  have I5 := Inv.kept (t' := s4.toks) I4 fun b ob q => Heap.get?_push_of_some { cls := Value.type "slice", data := Data.fields #[vl, vu, vs] } q
  obtain ⟨its, r, ht, hz2⟩ := I5.list hx
  have hlen := r.length
  have nl : s4.heap.objs.size + 1 = (s4.heap.push { cls := Value.type "slice", data := Data.fields #[vl, vu, vs] }).objs.size := by simp [Heap.push]
  refine tail_any (PlainL.isList ht).typeIs slot_list_getitem.lookup (wpAny_getItem_list_slice (PlainL.isList ht) (Heap.IsSliceOf.new s4.heap vl vu vs) pl pu ps h0 ?_ (by rw [List.size_toArray]; omega)) rfl
  have ep : slicePick its.toArray l u st = (pickV its l u st).toArray := by
    unfold slicePick pickV
    simp
  have el : pickV its l u st = (sliceRange (sliceBounds l u st xs.length).fst (sliceBounds l u st xs.length).snd.fst (sliceBounds l u st xs.length).snd.snd).filterMap fun i => its[i]? := by
    unfold pickV
    rw [← hlen]
  have rv : Vals (pickV xs l u st) (pickV its l u st) := by
    rw [el]
    exact pick_vals r _
  rw [ep]
  exact ⟨.ref _, upd H4 _ (.lst (pickV xs l u st)), I5.laid (o := .lst (pickV xs l u st)) (fun b ob q => Heap.get?_push_of_some _ q) (Nat.le_refl _) ⟨hz, _, 0, rv, Heap.get?_push_size _ rfl⟩, rfl, q _ (I5.hok.fresh (Nat.le_refl _))⟩
/-- xs.count(z), xs a list of texts -/
def rCntS (K : PySem.W.Frag) : V → List V → Hp → VK → Prop := fun x xs H Q => ∃ (p : Addr) (zs : List Str) (z : Str), x = .ref p ∧ xs = [.str z] ∧ SqL K H p (zs.map V.str) ∧ Q (.int (zs.countP fun y => y == z : Nat)) H
def isTxt (z : Str) : Value → Bool := fun y => match y with | .str a _ => a == z | _ => false
theorem cnt_txt {z : Str} : ∀ {zs : List Str} {its : List Value}, Vals (zs.map V.str) its → its.countP (isTxt z) = zs.countP fun y => y == z
  | [], _, .nil => rfl
  | y :: zs, _, .cons h t => by
    obtain ⟨u, rfl⟩ := h
    rw [List.countP_cons, List.countP_cons, cnt_txt t]
    rfl
theorem mt_countS {X : Cx} : MtR X "list.count" (rCntS X.K) := by
  intro pins s σ H x xs v us Q I rx rxs h
  obtain ⟨p, zs, z, rfl, rfl, hs, q⟩ := h
  obtain rfl : v = Value.ref p := rx
  obtain ⟨u, rfl, ru⟩ := rxs.one
  obtain ⟨t, rfl⟩ := ru
  obtain ⟨its, r, ⟨⟨oc, od, odt, osl⟩, n, ho, hc, hd, hdt⟩, hz⟩ := I.list hs
  simp only at hc hd hdt
  subst hc hdt
  refine call_meets F.slot_list_count ⟨_, ho, rfl⟩ F.entry_list_count (F.args_list_count_2 _ _) (SeqAt.list_countAt p its.toArray n od osl (.str z t) (isTxt z)) ⟨ho, fun y hy => ?_, ?_⟩
  · obtain ⟨i, hi⟩ := List.getElem?_of_mem (Array.mem_toList_iff.mpr hy)
    have hi : its[i]? = some y := by simpa using hi
    have li : i < (zs.map V.str).length := by
      rw [r.length]
      exact (List.getElem?_eq_some_iff.mp hi).1
    obtain ⟨u, hu, ru⟩ := r.get (List.getElem?_eq_getElem li)
    rw [hi] at hu
    obtain rfl := Option.some.inj hu
    rw [List.getElem_map] at ru
    obtain ⟨t2, rfl⟩ := ru
    exact SeqAt.EqAt.str_str _ _ _ _
  · refine ⟨.int _, H, I.tok _, ⟨_, rfl⟩, ?_⟩
    rw [show its.toArray.toList = its from rfl, cnt_txt r]
    exact q
/-! every second one -/
theorem pick2 {α : Type} {xs : List α} {a m : Nat} (h : xs.length = 2 * m + 1) (ha : a = 1 ∨ a = 2) : pickV xs (some (a : Int)) none (some 2) = (List.range m).filterMap fun k => xs[a + 2 * k]? := by
  unfold pickV sliceBounds sliceRange
  simp only [Option.getD_some, h]
  have h0 : ¬ ((a : Int) < 0) := by omega
  have h2 : (2 : Int) > 0 := by decide
  simp only [h0, h2, if_false, if_true]
  by_cases hm : m = 0
  · subst hm
    rcases ha with rfl | rfl <;> rfl
  · have e1 : max (0 : Int) (min (a : Int) ((2 * m + 1 : Nat) : Int)) = a := by omega
    rw [e1, if_pos (by omega)]
    have e2 : ((((2 * m + 1 : Nat) : Int) - a + 2 - 1) / 2).toNat = m := by omega
    rw [e2, List.filterMap_map]
    congr 1
theorem pairs_at {α : Type} : ∀ (ps : List (α × α)) (k : Nat), (ps.flatMap fun p => [p.1, p.2])[2 * k]? = ps[k]?.map Prod.fst ∧ (ps.flatMap fun p => [p.1, p.2])[2 * k + 1]? = ps[k]?.map Prod.snd
  | [], k => by simp
  | p :: ps, 0 => by simp
  | p :: ps, k + 1 => by
    have ih := pairs_at ps k
    have e1 : 2 * (k + 1) = 2 * k + 2 := by omega
    rw [e1]
    simpa using ih
theorem pairs_len {α : Type} : ∀ ps : List (α × α), (ps.flatMap fun p => [p.1, p.2]).length = 2 * ps.length
  | [] => rfl
  | p :: ps => by
    have := pairs_len ps
    rw [List.flatMap_cons, List.length_append, this, List.length_cons]
    show 2 + 2 * ps.length = 2 * (ps.length + 1)
    omega
theorem range_pick {α β : Type} (ps : List α) (f : α → β) : ((List.range ps.length).filterMap fun k => ps[k]?.map f) = ps.map f := by
  have e : ∀ n, n ≤ ps.length → ((List.range n).filterMap fun k => ps[k]?.map f) = (ps.take n).map f := by
    intro n
    induction n with
    | zero => intro _; simp
    | succ n ih =>
      intro hn
      have hx : ps[n]? = some ps[n] := List.getElem?_eq_getElem (by omega)
      rw [List.range_succ, List.filterMap_append, ih (by omega), List.take_add_one, hx, List.map_append]
      congr 1
      simp [hx]
  have := e ps.length (Nat.le_refl _)
  rw [List.take_length] at this
  exact this
theorem pick_odd {α : Type} (x : α) (ps : List (α × α)) : pickV (x :: ps.flatMap fun p => [p.1, p.2]) (some 1) none (some 2) = ps.map Prod.fst := by
  have h : (x :: ps.flatMap fun p => [p.1, p.2]).length = 2 * ps.length + 1 := by rw [List.length_cons, pairs_len]
  have := pick2 (a := 1) h (.inl rfl)
  rw [show (some (1 : Int)) = some (((1 : Nat) : Int)) from rfl, this, ← range_pick ps Prod.fst]
  congr 1
  funext k
  rw [show 1 + 2 * k = 2 * k + 1 from by omega, List.getElem?_cons_succ]
  exact (pairs_at ps k).1
theorem pick_even {α : Type} (x : α) (ps : List (α × α)) : pickV (x :: ps.flatMap fun p => [p.1, p.2]) (some 2) none (some 2) = ps.map Prod.snd := by
  have h : (x :: ps.flatMap fun p => [p.1, p.2]).length = 2 * ps.length + 1 := by rw [List.length_cons, pairs_len]
  have := pick2 (a := 2) h (.inr rfl)
  refine Eq.trans (show _ = _ from this) ?_
  rw [← range_pick ps Prod.snd]
  congr 1
  funext k
  rw [show 2 + 2 * k = (2 * k + 1) + 1 from by omega, List.getElem?_cons_succ]
  exact (pairs_at ps k).2
end Own

set_option Elab.async false
set_option maxRecDepth 100000
set_option maxHeartbeats 4000000
set_option linter.unusedVariables false
namespace K11
open PySem PySem.Spec PyProof.Rows L2 Own
-- steps
local macro_rules | `(tactic| walk_at "lk") => `(tactic| first
  | assumption | exact upd_same
  | ((with_reducible refine' lk_new ?e (by assumption)); (case e => walk_at "lk"))
  | ((with_reducible refine' lk_ext (by assumption) ?e); (case e => walk_at "lk"))
  | ((with_reducible refine' lk_same (by assumption) ?e); (case e => walk_at "lk")))
local macro_rules | `(tactic| walk_at "sq") => `(tactic| first | assumption | exact SqL.of (by walk_at "lk") | exact SqT.of (by walk_at "lk"))
local macro_rules | `(tactic| walk_at "r1") => `(tactic| first
  | with_reducible refine k_seq ?_ | with_reducible refine k_asg ?_ | with_reducible refine k_ret ?_ | with_reducible refine k_drop ?_ | with_reducible refine k_next ?_ | with_reducible refine k_ifS ?_
  | ((with_reducible refine' k_var ?e ?_); (case e => exact rfl)) | with_reducible refine k_c ?_ | with_reducible refine k_op ?_ | with_reducible refine k_un ?_ | with_reducible refine k_test ?_ | with_reducible refine k_B ?_
  | with_reducible refine k_and ?_ | with_reducible refine k_or ?_ | with_reducible refine k_not ?_ | with_reducible refine k_andV ?_ | with_reducible refine k_orV ?_ | with_reducible refine k_notV ?_ | with_reducible refine k_if ?_
  | with_reducible refine k_nil ?_ | with_reducible refine k_cons ?_ | with_reducible refine k_tup ?_ | with_reducible refine k_lst ?_ | with_reducible refine k_call ?_ | with_reducible refine k_cb ?_ | with_reducible refine k_ck ?_
  | with_reducible refine k_par ?_ | with_reducible refine k_par1 ?_ | with_reducible refine k_tr ?_ | with_reducible refine k_rI0 ?_ | with_reducible refine k_rU ?_
  | with_reducible refine k_gN ?_ | with_reducible refine k_gS ?_ | with_reducible refine k_gNil ?_ | with_reducible refine k_gCons ?_ | with_reducible refine k_bm0 ?_ | with_reducible refine k_bm ?_
  | with_reducible refine k_for ?_ | with_reducible refine k_iL ?_ | with_reducible refine k_iT ?_ | with_reducible refine k_iR1 ?_ | ((with_reducible refine k_iR1i ?e ?_); (case e => first | decide | exact ⟨by omega, by omega⟩))
  | with_reducible refine k_max ?_ | with_reducible refine k_isB ?_ | with_reducible refine k_sl ?_ | with_reducible refine k_noP ?_ | with_reducible refine k_part ?_ | with_reducible refine k_partI ?_ | with_reducible refine k_revL ?_
  | ((with_reducible refine' k_ixqT ?e ?f ?_); (case e => walk_at "sq"); (case f => first | exact rfl | exact atI_head))
  | ((with_reducible refine' k_ixqL ?e ?f ?_); (case e => walk_at "sq"); (case f => first | exact rfl | exact atI_head))
  | ((with_reducible refine' k_lenL ?e ?_); (case e => walk_at "sq"))
  | ((with_reducible refine' k_lenT ?e ?_); (case e => walk_at "sq"))
  | ((with_reducible refine' k_ixL ?e ?f ?_); (case e => walk_at "sq"); (case f => first | exact rfl | exact atI_head))
  | ((with_reducible refine' k_ixT ?e ?f ?_); (case e => walk_at "sq"); (case f => first | exact rfl | exact atI_head))
  | ((with_reducible refine k_eq ?e ?_); (case e => exact rfl)) | ((with_reducible refine k_ne ?e ?_); (case e => exact rfl))
  | ((with_reducible refine k_rI ?e ?_); (case e => first | assumption | omega | decide | exact ⟨by omega, by omega⟩ | exact .inl ⟨by omega, by omega⟩ | exact .inr ⟨by omega, by omega⟩)))
local macro_rules | `(tactic| walk_at "rd") => `(tactic| repeat walk_at "r1")
local macro_rules | `(tactic| walk_at "r2") => `(tactic| first
  | walk_at "r1"
  | with_reducible refine k_ifTt ?_ | with_reducible refine k_ifFf ?_ | with_reducible refine k_ifNt ?_ | with_reducible refine k_ifNf ?_
  | with_reducible refine k_makeR ?_ | with_reducible refine k_tJ ?_ | with_reducible refine k_tJc ?_ | with_reducible refine k_tJn ?_ | with_reducible refine k_fmt ?_ | with_reducible refine k_lc ?_ | with_reducible refine k_din ?_ | with_reducible refine k_fld ?_ | with_reducible refine k_dget ?_
  | with_reducible refine k_dput ?_
  | with_reducible refine k_isNv ?_
  | with_reducible refine k_notNv ?_
  | with_reducible refine k_str ?_
  | with_reducible refine k_enumT ?_
  | with_reducible refine k_zipA ?_
  | with_reducible refine k_chain ?_
  | ((with_reducible refine' k_dgS ?e dkv_cells ?_); (case e => walk_at "lk"))
  | ((with_reducible refine' k_dgS ?e dkv_mixed ?_); (case e => walk_at "lk"))
  | ((with_reducible refine' k_dgS ?e dkv_turn ?_); (case e => walk_at "lk")))
local macro_rules | `(tactic| walk_at "rr") => `(tactic| repeat walk_at "r2")
-- steps end
/-- parts that are right for these four tables -/
structure RightP (ts : List AT) (most : Nat) (p : Pt) : Prop where
  kind : p.kind = "update" ∨ p.kind = "delete" ∨ p.kind = "insert"
  tb : ∃ t, ts[0]? = some t ∧ p.tb = t.2.nm ∧ ∀ r, p.refs[0]? = some r → SetsOk p.kind t.2.cs (usesOf ts p.refs) r.1 p.sets
  r1 : 1 ≤ p.refs.length
  r2 : p.refs.length ≤ 2
  al : (p.refs.map (·.1)).Nodup
  an : ∀ r ∈ p.refs, isNameB r.1 = true
  rt : ∀ r ∈ p.refs, ∃ x ∈ ts.take 2, x.2.nm = r.2
  hd : p.kind ≠ "insert" → ∀ r, p.refs[0]? = some r → r.2 = p.tb
  cl : p.conds.length ≤ most
  cs : ∀ c ∈ p.conds, c.In (usesOf ts p.refs)
  pl : p.probes.length ≤ 2
  pn : (p.probes.map Prb.tb).Nodup
  ps : ∀ q ∈ p.probes, ∃ x ∈ ts.drop 2, q.In x.2 (usesOf ts p.refs)
  tl : p.told.length ≤ 3
  td : ∀ u ∈ p.told, u ∈ usesOf ts p.refs
theorem uses_len {ts : List AT} (ok : ∀ x ∈ ts, x.2.Ok) : ∀ refs : List Use, (usesOf ts refs).length ≤ 3 * refs.length
  | [] => Nat.le_refl _
  | r :: refs => by
    have ih := uses_len ok refs
    have lc : (colsOf ts r.2).length ≤ 3 := by
      unfold colsOf
      cases ef : ts.find? (fun x => decide (x.2.nm = r.2)) with
      | none => simp
      | some z => exact (ok z (List.mem_of_find?_eq_some ef)).c3
    unfold usesOf at ih ⊢
    rw [List.flatMap_cons, List.length_append, List.length_map, List.length_cons]
    omega
theorem uses_in {ts : List AT} {refs : List Use} (ok : ∀ x ∈ ts, x.2.Ok) {r : Use} (hr : r ∈ refs) (h : ∃ x ∈ ts, x.2.nm = r.2) : ∃ u ∈ usesOf ts refs, u.1 = r.1 := by
  obtain ⟨x, hx, hn⟩ := h
  have : ∃ z, z ∈ colsOf ts r.2 := by
    unfold colsOf
    cases ef : ts.find? (fun x => decide (x.2.nm = r.2)) with
    | none => exact absurd hn (by simpa using List.find?_eq_none.mp ef x hx)
    | some y =>
      have c1 := (ok y (List.mem_of_find?_eq_some ef)).c1
      match hy : y.2.cs, c1 with
      | z :: zs, _ => exact ⟨z, by simp [hy]⟩
  obtain ⟨z, hz⟩ := this
  exact ⟨(r.1, z), List.mem_flatMap.mpr ⟨r, hr, List.mem_map.mpr ⟨z, hz, rfl⟩⟩, rfl⟩
theorem pick_two (x y : V) : pickV [x, y] none none (some 1) = [x, y] ∧ pickV [x, y] none none (some (-1)) = [y, x] := by
  have e1 : sliceRange (sliceBounds none none (some 1) 2).fst (sliceBounds none none (some 1) 2).snd.fst (sliceBounds none none (some 1) 2).snd.snd = [0, 1] := by decide +kernel
  have e2 : sliceRange (sliceBounds none none (some (-1)) 2).fst (sliceBounds none none (some (-1)) 2).snd.fst (sliceBounds none none (some (-1)) 2).snd.snd = [1, 0] := by decide +kernel
  refine ⟨?_, ?_⟩
  · unfold pickV
    rw [show [x, y].length = 2 from rfl, e1]
    rfl
  · unfold pickV
    rw [show [x, y].length = 2 from rfl, e2]
    rfl
def tAsked : TE := fun σ H Q => ∃ (d c l : Addr) (b : Int) (a0 a1 a2 a3 : Addr) (s2 s3 s4 s5 s6 s7 s8 s9 s10 s11 s12 s13 s14 : Option V), σ = [some (.ref d), some (.ref l), s2, s3, s4, s5, s6, s7, s8, s9, s10, s11, s12, s13, s14] ∧ DeckE d c b H ∧ b ≤ 900000 ∧ ¬ Dk d c l ∧
  H l = some (.lst [.ref a0, .ref a1, .ref a2, .ref a3]) ∧ ∀ (zs : List Addr) (p : Addr) (H' : Hp), zs ∈ ([[], [a2], [a3], [a2, a3], [a3, a2]] : List (List Addr)) → H' p = some (.lst (zs.map V.ref)) → ¬ Dk d c p → DeckE d c (b + 2) H' → Ext (Dk d c) H H' → Q (.ref p) H'
/-- the references -/
def tPairs : TE := fun σ H Q => ∃ (d c la : Addr) (b : Int) (z1 z2 on fi : Str) (s1 s2 s5 s6 s7 s8 s9 s10 s11 s13 s14 : Option V), σ = [some (.ref d), s1, s2, some (.str on), some (.str fi), s5, s6, s7, s8, s9, s10, s11, some (.ref la), s13, s14] ∧ DeckE d c b H ∧ b ≤ 900000 ∧ ¬ Dk d c la ∧
  StrsAt H la [z1, z2] ∧ ∀ (refs : List Use) (pr q1 : Addr) (rest : List V) (H' : Hp), (refs = [(z1, fi)] ∨ refs = [(z1, fi), (z2, on)]) → DT H' (.ref pr) (.tuple (refs.map useD)) → H' pr = some (.tup (.ref q1 :: rest)) → H' q1 = some (.tup [.str z1, .str fi]) → DeckE d c (b + 1) H' → Ext (Dk d c) H H' → Q (.ref pr) H'
theorem PE_imp {X : Cx} {e : Expr} {t t' : TE} (p : PE X e t) (h : ∀ σ H Q, t' σ H Q → t σ H Q) : PE X e t' := ⟨fun pins s σ H Q I q => p.run pins s σ H Q I (h σ H Q q)⟩
/-- which table the first reference goes to -/
def tFirst : TE := fun σ H Q => ∃ (d c l la : Addr) (b : Int) (most : Int) (kind on n0 : Str) (t0 : Addr) (rest more : List V) (s4 s5 s6 s7 s8 s9 s10 s13 s14 : Option V), σ = [some (.ref d), some (.ref l), some (.int most), some (.str on), s4, s5, s6, s7, s8, s9, s10, some (.str kind), some (.ref la), s13, s14] ∧ DeckE d c b H ∧ b ≤ 900000 ∧ ¬ Dk d c l ∧
  H l = some (.lst (.ref t0 :: rest)) ∧ H t0 = some (.tup (.str n0 :: more)) ∧ ∀ (fi : Str) (H' : Hp), (kind ≠ "insert" → fi = n0) → (fi = on ∨ fi = n0) → DeckE d c (b + 1) H' → Ext (Dk d c) H H' → Q (.str fi) H'
section
variable {P : Program} {w : World} {K : PySem.W.Frag} {mg : Str → Option Value} {g0 : Heap}
abbrev s_parts : Stmt := top 80
theorem sc_parts : FnScope ["_law_deck_here", "_law_tables_here", "_law_most", "_law_other", "_law_first", "_law_pairs", "_law_uses_here", "_law_tests", "_law_asked", "_law_changes", "_law_listed", "_law_kind_here", "_law_aliases", "_law_k", "_law_one"] ["_law_deck_here", "_law_tables_here", "_law_most"] (defScope s_parts) :=
  ⟨rfl, rfl, rfl, by decide +kernel, rfl, by decide +kernel, by decide +kernel⟩
def spParts : Sp := fun vs H Q _ => ∃ (d c l : Addr) (b : Int) (most : Nat) (ts : List AT), vs = [.ref d, .ref l, .int most] ∧ DeckE d c b H ∧ b ≤ 800000 ∧ most ≤ 5 ∧ H l = some (.lst (refsOf ts)) ∧ ¬ Dk d c l ∧ Tabs ts H ∧ ts.length = 4 ∧
  ∀ (a : Addr) (p : Pt) (H' : Hp), RightP ts most p → DT H' (.ref a) p.d → DeckE d c (b + 500) H' → Ext (Dk d c) H H' → Q (.ref a) H'
theorem ok_parts {f : Addr} {fd : FuncData} (F : Fun K "_law_parts" "_law_parts" s_parts f fd) (z_range : mg "range" = none) (z_tuple : mg "tuple" = none) (C_draw : Cal P w K mg g0 "_law_draw" 1 ["_law_deck_here", "_law_bound"] spDraw)
    (C_pick : Cal P w K mg g0 "_law_pick" 2 ["_law_deck_here", "_law_some"] spPick) (C_names : Cal P w K mg g0 "_law_names" 2 ["_law_deck_here", "_law_many"] spNames) (C_uses : Cal P w K mg g0 "_law_uses" 1 ["_law_tables_here", "_law_pairs"] spUses)
    (C_condition : Cal P w K mg g0 "_law_condition" 3 ["_law_deck_here", "_law_uses_here"] spCondition) (C_probe : Cal P w K mg g0 "_law_probe" 3 ["_law_deck_here", "_law_table_here", "_law_uses_here"] spProbe)
    (C_settings : Cal P w K mg g0 "_law_settings" 3 ["_law_deck_here", "_law_kind_here", "_law_columns", "_law_uses_here", "_law_pairs"] spSettings) : GOk P w K mg g0 CX0 4 f fd ["_law_deck_here", "_law_tables_here", "_law_most"] spParts := by
  have nd := sc_parts.nd
  refine okG F sc_parts (fun vs H Q E h => ?_) (fun cdv A up s H vs Q E qt hr h => ?_)
  · obtain ⟨d, c, l, b, most, ts, rfl, _⟩ := h
    rfl
  · obtain ⟨d, c, l, b, most, ts, rfl, D, hb, lm, hl, nl, htabs, lts, k⟩ := h
    refine ⟨_, (pss_cons (ps_par (i := 11) (j := 12) (by rfl) nd rfl rfl (by decide) rfl rfl (pa_cons (pe_c C_pick qt (hr.mono (by decide)) (pa_cons (pv 0) (pa_cons (pe_lst (pa_cons pe_str (pa_cons pe_str (pa_cons pe_str (pa_cons pe_str pa_nil))))) pa_nil))) (pa_cons (pe_c C_names qt (hr.mono (by decide)) (pa_cons (pv 0) (pa_cons pe_int pa_nil))) pa_nil)) (by rfl))
        (pss_cons (ps_set (i := 3) nd rfl (Or.inl rfl) (pe_ix ix_seq (pe_ix ix_seq (pv 1) (pe_c C_draw qt (hr.mono (by decide)) (pa_cons (pv 0) (pa_cons pe_int pa_nil))) (fun _ _ => rfl)) pe_int (fun _ _ => rfl)))
        (pss_cons (ps_set (i := 4) nd rfl (Or.inl rfl) (PE_imp (pe_ifExp (PW.pt (pw_and (pt_cmpR op_eq (pv 11) pe_str (nomark _)) (pw_and1 (pt_cmpR op_eq (pe_c C_draw qt (hr.mono (by decide)) (pa_cons (pv 0) (pa_cons pe_int pa_nil))) pe_int (nomark _))))) (pv 3) (pe_ix ix_seq (pe_ix ix_seq (pv 1) pe_int (fun _ _ => rfl)) pe_int (fun _ _ => rfl))) (t' := tFirst) (fun σ H Q h => by
            obtain ⟨d, c, l, la, b, most, kind, on, n0, t0, rest, more, s4, s5, s6, s7, s8, s9, s10, s13, s14, rfl, D, hb, nl, hl, ht, k⟩ := h
            walk_at "rr"
            by_cases e : kind = "insert"
            · rw [decide_eq_true (congrArg V.str e)]
              refine iteT ?_
              walk_at "rr"
              refine ⟨d, c, b, 2, rfl, D, by omega, by decide, by decide, fun r H1 r0 r1 D1 x1 => ?_⟩
              have hl1 := x1.2 _ _ nl hl
              have ht1 := x1.1 _ _ ht
              walk_at "rr"
              refine k_iteD (fun _ => ?_) fun _ => ?_
              · walk_at "rr"
                exact k on H1 (fun z => absurd e z) (.inl rfl) D1 x1
              · walk_at "rr"
                exact k n0 H1 (fun _ => rfl) (.inr rfl) D1 x1
            · rw [decide_eq_false fun z => e (V.str.inj z)]
              refine iteF ?_
              walk_at "rr"
              exact k n0 H (fun _ => rfl) (.inr rfl) (D.mono (by omega)) (Ext.refl _))))
        (pss_cons (ps_set (i := 5) nd rfl (Or.inl rfl) (PE_imp (pe_slice sl_tupA (pe_tup (pa_cons (pe_tup (pa_cons (pe_ix ix_seq (pv 12) pe_int (fun _ _ => rfl)) (pa_cons (pv 4) pa_nil))) (pa_cons (pe_tup (pa_cons (pe_ix ix_seq (pv 12) pe_int (fun _ _ => rfl)) (pa_cons (pv 3) pa_nil))) pa_nil))) po_none (po_some (pe_op op_add pe_int (pe_c C_draw qt (hr.mono (by decide)) (pa_cons (pv 0) (pa_cons pe_int pa_nil)))))) (t' := tPairs) (fun σ H Q h => by
            obtain ⟨d, c, la, b, z1, z2, on, fi, s1, s2, s5, s6, s7, s8, s9, s10, s11, s13, s14, rfl, D, hb, nla, hla, k⟩ := h
            walk_at "rr"
            refine ⟨k_sz rfl, fun q1 hq1 => ?_⟩
            have D1 := D.new (o := .tup [.str z1, .str fi]) hq1
            have x1 : Ext (Dk d c) H (upd H q1 (.tup [.str z1, .str fi])) := ext_new hq1
            have g1 : upd H q1 (.tup [.str z1, .str fi]) q1 = some (.tup [.str z1, .str fi]) := upd_same
            have hla1 := x1.2 _ _ nla hla
            generalize upd H q1 _ = H1 at D1 x1 g1 hla1 ⊢
            walk_at "rr"
            refine ⟨k_sz rfl, fun q2 hq2 => ?_⟩
            have D2 := D1.new (o := .tup [.str z2, .str on]) hq2
            have x2 := x1.trans (ext_new (M := Dk d c) (o := .tup [.str z2, .str on]) hq2)
            have g2 : upd H1 q2 (.tup [.str z2, .str on]) q2 = some (.tup [.str z2, .str on]) := upd_same
            have g12 := lk_new (o := .tup [.str z2, .str on]) g1 hq2
            generalize upd H1 q2 _ = H2 at D2 x2 g2 g12 ⊢
            walk_at "rr"
            refine ⟨k_sz rfl, fun pr hpr => ?_⟩
            have D3 := D2.new (o := .tup [.ref q1, .ref q2]) hpr
            have x3 := x2.trans (ext_new (M := Dk d c) (o := .tup [.ref q1, .ref q2]) hpr)
            have g3 : upd H2 pr (.tup [.ref q1, .ref q2]) pr = some (.tup [.ref q1, .ref q2]) := upd_same
            have g13 := lk_new (o := .tup [.ref q1, .ref q2]) g12 hpr
            have g23 := lk_new (o := .tup [.ref q1, .ref q2]) g2 hpr
            generalize upd H2 pr _ = H3 at D3 x3 g3 g13 g23 ⊢
            walk_at "rr"
            refine ⟨d, c, b, 2, rfl, D3, by omega, by decide, by decide, fun n H4 n0 n1 D4 x4 => ?_⟩
            have g4 := x4.1 _ _ g3
            have g14 := x4.1 _ _ g13
            have g24 := x4.1 _ _ g23
            walk_at "rr"
            have hn : n = 0 ∨ n = 1 := by omega
            rcases hn with rfl | rfl
            · refine ⟨pr, _, rfl, SqT.of g4, fun z => absurd z.2 (by simp [HT.sIx]), fun _ p0 hp0 => ?_⟩
              have t0 : Tups H4 (upd H4 p0 (.tup [.ref q1])) := tups_new hp0
              exact k [(z1, fi)] p0 q1 _ _ (.inl rfl) (.tup upd_same (.cons (.tup (t0 _ _ g14) (.cons (.str _) (.cons (.str _) .nil))) .nil)) upd_same (t0 _ _ g14) (D4.new hp0) ((x3.trans x4).trans (ext_new hp0))
            · refine ⟨pr, _, rfl, SqT.of g4, fun _ => ?_, fun z => absurd ⟨rfl, rfl⟩ z⟩
              exact k [(z1, fi), (z2, on)] pr q1 _ _ (.inr rfl) (.tup g4 (.cons (.tup g14 (.cons (.str _) (.cons (.str _) .nil))) (.cons (.tup g24 (.cons (.str _) (.cons (.str _) .nil))) .nil))) g4 g14 D4 (x3.trans x4))))
        (pss_cons (ps_set (i := 6) nd rfl (Or.inr rfl) (pe_c C_uses qt (hr.mono (by decide)) (pa_cons (pv 1) (pa_cons (pv 5) pa_nil))))
        (pss_cons (ps_set (i := 7) nd rfl (Or.inl rfl) (pe_callTy call_tuple_of (by rfl) z_tuple (by decide +kernel) (pa_cons (pe_lc (own := [("_law_k", 13)]) (g := (gName 13)) (tt := tYes) (te := (tCall _ [] E0 (tCons (tVar 0) (tCons (tVar 6) tNil)))) (by rfl) nd (pi_range1 (by rfl) z_range (pa_cons (pe_c C_draw qt (hr.mono (by decide)) (pa_cons (pv 0) (pa_cons (pe_op op_add (pv 2) pe_int) pa_nil))) pa_nil)) (blkOk_by (own := [("_law_k", 13)]) (N := ["_law_deck_here", "_law_tables_here", "_law_most", "_law_other", "_law_first", "_law_pairs", "_law_uses_here", "_law_tests", "_law_asked", "_law_changes", "_law_listed", "_law_kind_here", "_law_aliases", "_law_k", "_law_one"]) (sc := defScope s_parts) (by decide +kernel)) (fun _ _ _ _ _ => by exact (pg_name (i := 13) nd rfl (Or.inl rfl))) (fun _ _ _ _ _ => by exact pts_nil) (fun _ _ _ _ _ => by exact (pe_c C_condition qt (hr.mono (by decide)) (pa_cons (pv 0) (pa_cons (pv 6) pa_nil))))) pa_nil)))
        (pss_cons (ps_set (i := 8) nd rfl (Or.inl rfl) (PE_imp (pe_slice sl_list (pe_slice3 (pe_slice sl_list (pv 1) (po_some pe_int) po_none) po_none po_none (po_some (pe_ix ix_seq (pe_lst (pa_cons pe_int (pa_cons (pe_un un_neg pe_int) pa_nil))) (pe_c C_draw qt (hr.mono (by decide)) (pa_cons (pv 0) (pa_cons pe_int pa_nil))) (fun _ _ => rfl)))) po_none (po_some (pe_ix ix_seq (pe_lst (pa_cons pe_int (pa_cons pe_int (pa_cons pe_int (pa_cons pe_int pa_nil))))) (pe_c C_draw qt (hr.mono (by decide)) (pa_cons (pv 0) (pa_cons pe_int pa_nil))) (fun _ _ => rfl)))) (t' := tAsked) (fun σ H Q h => by
            obtain ⟨d, c, l, b, a0, a1, a2, a3, s2, s3, s4, s5, s6, s7, s8, s9, s10, s11, s12, s13, s14, rfl, D, hb, nl, hl, k⟩ := h
            unfold tSl3
            walk_at "rr"
            refine k_slL (SqL.of hl) fun p1 hp1 => ?_
            rw [show cutV [V.ref a0, V.ref a1, V.ref a2, V.ref a3] (some 2) none = [V.ref a2, V.ref a3] from rfl]
            have D1 := D.new (o := .lst [.ref a2, .ref a3]) hp1
            have n1 : ¬ Dk d c p1 := D.off hp1
            have x1 : Ext (Dk d c) H (upd H p1 (.lst [.ref a2, .ref a3])) := ext_new hp1
            have g1 : upd H p1 (.lst [.ref a2, .ref a3]) p1 = some (.lst [.ref a2, .ref a3]) := upd_same
            generalize upd H p1 _ = H1 at D1 x1 g1 ⊢
            walk_at "rr"
            refine ⟨k_sz rfl, fun p2 hp2 => ?_⟩
            have D2 := D1.new (o := .lst [.int 1, .int (-1)]) hp2
            have n2 : ¬ Dk d c p2 := D1.off hp2
            have x2 := x1.trans (ext_new (M := Dk d c) (o := .lst [.int 1, .int (-1)]) hp2)
            have g12 := lk_new (o := .lst [.int 1, .int (-1)]) g1 hp2
            have g2 : upd H1 p2 (.lst [.int 1, .int (-1)]) p2 = some (.lst [.int 1, .int (-1)]) := upd_same
            generalize upd H1 p2 _ = H2 at D2 x2 g12 g2 ⊢
            walk_at "rr"
            refine ⟨d, c, b, 2, rfl, D2, by omega, by decide, by decide, fun r H3 r0 r1 D3 x3 => ?_⟩
            have g13 := x3.2 _ _ n1 g12
            have g23 := x3.2 _ _ n2 g2
            obtain ⟨st, hst, est⟩ : ∃ st : Int, atI [V.int 1, V.int (-1)] r = some (.int st) ∧ (st = 1 ∨ st = -1) := by
              have : r = 0 ∨ r = 1 := by omega
              rcases this with rfl | rfl
              · exact ⟨_, rfl, .inl rfl⟩
              · exact ⟨_, rfl, .inr rfl⟩
            walk_at "rr"
            refine k_ixqL (SqL.of g23) hst ?_
            have two : ∃ xs : List Addr, pickV [V.ref a2, V.ref a3] none none (some st) = xs.map V.ref ∧ (xs = [a2, a3] ∨ xs = [a3, a2]) := by
              rcases est with rfl | rfl
              · exact ⟨[a2, a3], (pick_two _ _).1, .inl rfl⟩
              · exact ⟨[a3, a2], (pick_two _ _).2, .inr rfl⟩
            obtain ⟨xs, exs, hxs⟩ := two
            have lxs : xs.length = 2 := by rcases hxs with rfl | rfl <;> rfl
            refine ⟨st, rfl, p1, _, rfl, SqL.of g13, by rcases est with rfl | rfl <;> decide, by rw [exs, List.length_map, lxs]; decide, fun p4 hp4 => ?_⟩
            rw [exs]
            have D4 := D3.new (o := .lst (xs.map V.ref)) hp4
            have n4 : ¬ Dk d c p4 := D3.off hp4
            have x4 := (x2.trans x3).trans (ext_new (M := Dk d c) (o := .lst (xs.map V.ref)) hp4)
            have g4 : upd H3 p4 (.lst (xs.map V.ref)) p4 = some (.lst (xs.map V.ref)) := upd_same
            generalize upd H3 p4 _ = H4 at D4 x4 g4 ⊢
            walk_at "rr"
            refine ⟨k_sz rfl, fun p5 hp5 => ?_⟩
            have D5 := D4.new (o := .lst [.int 0, .int 0, .int 1, .int 2]) hp5
            have n5 : ¬ Dk d c p5 := D4.off hp5
            have x5 := x4.trans (ext_new (M := Dk d c) (o := .lst [.int 0, .int 0, .int 1, .int 2]) hp5)
            have g45 := lk_new (o := .lst [.int 0, .int 0, .int 1, .int 2]) g4 hp5
            have g5 : upd H4 p5 (.lst [.int 0, .int 0, .int 1, .int 2]) p5 = some (.lst [.int 0, .int 0, .int 1, .int 2]) := upd_same
            generalize upd H4 p5 _ = H5 at D5 x5 g45 g5 ⊢
            walk_at "rr"
            refine ⟨d, c, _, 4, rfl, D5, by omega, by decide, by decide, fun r2 H6 r20 r21 D6 x6 => ?_⟩
            have g46 := x6.2 _ _ n4 g45
            have g56 := x6.2 _ _ n5 g5
            obtain ⟨m, hm, em⟩ : ∃ m : Int, atI [V.int 0, V.int 0, V.int 1, V.int 2] r2 = some (.int m) ∧ (m = 0 ∨ m = 1 ∨ m = 2) := by
              have : r2 = 0 ∨ r2 = 1 ∨ r2 = 2 ∨ r2 = 3 := by omega
              rcases this with rfl | rfl | rfl | rfl
              · exact ⟨_, rfl, .inl rfl⟩
              · exact ⟨_, rfl, .inl rfl⟩
              · exact ⟨_, rfl, .inr (.inl rfl)⟩
              · exact ⟨_, rfl, .inr (.inr rfl)⟩
            walk_at "rr"
            refine k_ixqL (SqL.of g56) hm ?_
            refine ⟨m, rfl, ?_⟩
            refine k_slL (SqL.of g46) fun p7 hp7 => ?_
            rw [cut_map]
            refine k (cutL xs none (some m)) p7 _ ?_ upd_same (D6.off hp7) ((D6.new hp7).mono (by omega)) ((x5.trans x6).trans (ext_new hp7))
            rcases hxs with rfl | rfl <;> rcases em with rfl | rfl | rfl <;> simp [cutL, HT.sIx])))
        (pss_cons (ps_set (i := 8) nd rfl (Or.inl rfl) (pe_callTy call_tuple_of (by rfl) z_tuple (by decide +kernel) (pa_cons (pe_lc (own := [("_law_one", 14)]) (g := (gName 14)) (tt := tYes) (te := (tCall _ [] E0 (tCons (tVar 0) (tCons (tVar 14) (tCons (tVar 6) tNil))))) (by rfl) nd (pi_list (pv 8)) (blkOk_by (own := [("_law_one", 14)]) (N := ["_law_deck_here", "_law_tables_here", "_law_most", "_law_other", "_law_first", "_law_pairs", "_law_uses_here", "_law_tests", "_law_asked", "_law_changes", "_law_listed", "_law_kind_here", "_law_aliases", "_law_k", "_law_one"]) (sc := defScope s_parts) (by decide +kernel)) (fun _ _ _ _ _ => by exact (pg_name (i := 14) nd rfl (Or.inl rfl))) (fun _ _ _ _ _ => by exact pts_nil) (fun _ _ _ _ _ => by exact (pe_c C_probe qt (hr.mono (by decide)) (pa_cons (pv 0) (pa_cons (pv 14) (pa_cons (pv 6) pa_nil)))))) pa_nil)))
        (pss_cons (ps_set (i := 9) nd rfl (Or.inl rfl) (pe_c C_settings qt (hr.mono (by decide)) (pa_cons (pv 0) (pa_cons (pv 11) (pa_cons (pe_ix ix_seq (pe_ix ix_seq (pv 1) pe_int (fun _ _ => rfl)) pe_int (fun _ _ => rfl)) (pa_cons (pv 6) (pa_cons (pv 5) pa_nil)))))))
        (pss_cons (ps_set (i := 10) nd rfl (Or.inl rfl) (pe_callTy call_tuple_of (by rfl) z_tuple (by decide +kernel) (pa_cons (pe_lc (own := [("_law_k", 13)]) (g := (gName 13)) (tt := tYes) (te := (tCall _ [] E0 (tCons (tVar 0) (tCons (tVar 6) tNil)))) (by rfl) nd (pi_range1 (by rfl) z_range (pa_cons (pe_c C_draw qt (hr.mono (by decide)) (pa_cons (pv 0) (pa_cons pe_int pa_nil))) pa_nil)) (blkOk_by (own := [("_law_k", 13)]) (N := ["_law_deck_here", "_law_tables_here", "_law_most", "_law_other", "_law_first", "_law_pairs", "_law_uses_here", "_law_tests", "_law_asked", "_law_changes", "_law_listed", "_law_kind_here", "_law_aliases", "_law_k", "_law_one"]) (sc := defScope s_parts) (by decide +kernel)) (fun _ _ _ _ _ => by exact (pg_name (i := 13) nd rfl (Or.inl rfl))) (fun _ _ _ _ _ => by exact pts_nil) (fun _ _ _ _ _ => by exact (pe_c C_pick qt (hr.mono (by decide)) (pa_cons (pv 0) (pa_cons (pv 6) pa_nil))))) pa_nil)))
        (pss_one (ps_ret (pe_tup (pa_cons (pv 11) (pa_cons (pe_ix ix_seq (pe_ix ix_seq (pv 1) pe_int (fun _ _ => rfl)) pe_int (fun _ _ => rfl)) (pa_cons (pv 5) (pa_cons (pv 7) (pa_cons (pv 8) (pa_cons (pv 9) (pa_cons (pv 10) pa_nil)))))))))))))))))))), ?_⟩
    walk_at "rr"
    refine ⟨k_sz rfl, fun l0 hl0 => ?_⟩
    have D0 := D.new (o := .lst [.str "update", .str "delete", .str "insert", .str "update"]) hl0
    have n0 : ¬ Dk d c l0 := D.off hl0
    have x0 : Ext (Dk d c) H (upd H l0 (.lst [.str "update", .str "delete", .str "insert", .str "update"])) := ext_new hl0
    have g0' : upd H l0 (.lst [.str "update", .str "delete", .str "insert", .str "update"]) l0 = some (.lst [.str "update", .str "delete", .str "insert", .str "update"]) := upd_same
    generalize upd H l0 _ = H0 at D0 x0 g0' ⊢
    walk_at "rr"
    refine ⟨d, c, l0, _, _, rfl, D0, by omega, .inl ⟨g0', n0⟩, by simp, by simp, fun xk H1 hxk D1 x1 => ?_⟩
    obtain ⟨kind, rfl, hkind⟩ : ∃ kind : Str, xk = .str kind ∧ (kind = "update" ∨ kind = "delete" ∨ kind = "insert") := by
      simp only [List.mem_cons, List.not_mem_nil, or_false] at hxk
      rcases hxk with rfl | rfl | rfl | rfl
      · exact ⟨_, rfl, .inl rfl⟩
      · exact ⟨_, rfl, .inr (.inl rfl)⟩
      · exact ⟨_, rfl, .inr (.inr rfl)⟩
      · exact ⟨_, rfl, .inl rfl⟩
    walk_at "rr"
    refine ⟨d, c, _, 2, rfl, D1, by omega, by decide, fun la as H2 has D2 x2 hla nla fla => ?_⟩
    have x02 := (x0.trans x1).trans x2
    match ts, lts with
    | [t0, t1, t2, t3], _ =>
    have hl2 := x02.2 _ _ nl hl
    have tabs2 := htabs.ext x02
    have D2' := D2.mono (show b + 1 + 10 ≤ b + 11 by omega)
    clear D0 D1 D2 x0 x1 x2 g0' n0 hxk
    walk_at "rr"
    refine ⟨d, c, _, 2, rfl, D2', by omega, by decide, by decide, fun r H3 r0 r1 D3 x3 => ?_⟩
    have hl3 := x3.2 _ _ nl hl2
    have tabs3 := tabs2.ext x3
    have hla3 := x3.2 _ _ nla hla
    have x03 := x02.trans x3
    walk_at "rr"
    obtain ⟨ot, hot, mot⟩ : ∃ x, atI (refsOf [t0, t1, t2, t3]) r = some (.ref x.1) ∧ x ∈ [t0, t1] := by
      have : r = 0 ∨ r = 1 := by omega
      rcases this with rfl | rfl
      · exact ⟨t0, rfl, by simp⟩
      · exact ⟨t1, rfl, by simp⟩
    have mot4 : ot ∈ [t0, t1, t2, t3] := by
      rcases List.mem_cons.mp mot with rfl | h
      · simp
      · rcases List.mem_cons.mp h with rfl | h
        · simp
        · cases h
    refine k_ixqL (SqL.of hl3) hot ?_
    obtain ⟨co, io, ko, o1, _, _, _⟩ := tabs3.at_ ot mot4
    walk_at "rr"
    obtain ⟨c0, i0, k0, o0, oc0, _, _⟩ := tabs3.at_ t0 (by simp)
    refine ⟨d, c, l, la, b + 12, most, kind, ot.2.nm, t0.2.nm, t0.1, _, _, _, _, _, _, _, _, _, _, _, rfl, D3.mono (by omega), by omega, nl, hl3, o0, fun fi H4 hf1 hf2 D4 x4 => ?_⟩
    have hl4 := x4.2 _ _ nl hl3
    have tabs4 := tabs3.ext x4
    have hla4 := x4.2 _ _ nla hla3
    have x04 := x03.trans x4
    have oc04 := x4.1 _ _ oc0
    have o04 := x4.1 _ _ o0
    have mfi : ∃ x ∈ [t0, t1], x.2.nm = fi := by
      rcases hf2 with rfl | rfl
      · exact ⟨ot, mot, rfl⟩
      · exact ⟨t0, by simp, rfl⟩
    clear hl2 tabs2 hl3 tabs3 hla3 x03 o1 o0 oc0 D2' D3 x02 x3 x4 hla
    obtain ⟨z1, z2, rfl⟩ : ∃ z1 z2, as = [z1, z2] := by
      have := has.len
      match as, this with
      | [a, b], _ => exact ⟨a, b, rfl⟩
    walk_at "rr"
    refine ⟨d, c, la, b + 13, z1, z2, ot.2.nm, fi, _, _, _, _, _, _, _, _, _, _, _, rfl, D4.mono (by omega), by omega, nla, hla4, fun refs pr q1 prest H5 hrefs dpr gpr gq1 D5 x5 => ?_⟩
    have hl5 := x5.2 _ _ nl hl4
    have tabs5 := tabs4.ext x5
    have x05 := x04.trans x5
    have oc5 := x5.1 _ _ oc04
    have o5 := x5.1 _ _ o04
    clear hl4 tabs4 hla4 x04 oc04 o04 D4 x5
    have hrt : ∀ r ∈ refs, ∃ x ∈ [t0, t1], x.2.nm = r.2 := fun r hr => by
      rcases hrefs with rfl | rfl
      · obtain rfl := List.mem_singleton.mp hr
        exact mfi
      · rcases List.mem_cons.mp hr with rfl | hr
        · exact mfi
        · obtain rfl := List.mem_singleton.mp hr
          exact ⟨ot, mot, rfl⟩
    have hrt4 : ∀ r ∈ refs, ∃ x ∈ [t0, t1, t2, t3], x.2.nm = r.2 := fun r hr => by
      obtain ⟨x, hx, e⟩ := hrt r hr
      refine ⟨x, ?_, e⟩
      rcases List.mem_cons.mp hx with rfl | hx
      · simp
      · obtain rfl := List.mem_singleton.mp hx
        simp
    have lrefs : 1 ≤ refs.length ∧ refs.length ≤ 2 := by
      rcases hrefs with rfl | rfl <;> exact ⟨by simp, by simp⟩
    have hr0 : refs[0]? = some (z1, fi) := by
      rcases hrefs with rfl | rfl <;> rfl
    walk_at "rr"
    refine ⟨l, pr, [t0, t1, t2, t3], refs, rfl, hl5, tabs5, by show 4 ≤ 4; decide, dpr, hrt4, lrefs.2, fun lu H6 hus ful s6 => ?_⟩
    have nlu : ¬ Dk d c lu := D5.off ful
    have x06 := x05.trans (Same.ext s6)
    have D6 := D5.same s6
    have hl6 := s6 _ _ hl5
    have tabs6 := tabs5.ext (M := Dk d c) (Same.ext s6)
    have dpr6 := dpr.keep (Tups.same s6)
    have gpr6 := s6 _ _ gpr
    have gq16 := s6 _ _ gq1
    have oc6 := s6 _ _ oc5
    have o6 := s6 _ _ o5
    have uin := uses_in (ts := [t0, t1, t2, t3]) (refs := refs) tabs5.ok (List.mem_of_getElem? hr0) (hrt4 _ (List.mem_of_getElem? hr0))
    have ulen : (usesOf [t0, t1, t2, t3] refs).length ≤ 3 * refs.length := uses_len tabs5.ok refs
    have une : usesOf [t0, t1, t2, t3] refs ≠ [] := fun z => by
      obtain ⟨u, hu, _⟩ := uin
      rw [z] at hu
      cases hu
    generalize hus0 : usesOf [t0, t1, t2, t3] refs = us at hus uin ulen une
    clear hl5 tabs5 dpr gpr gq1 oc5 o5 x05 D5 s6 ful
    walk_at "rr"
    refine ⟨d, c, _, _, rfl, D6, by omega, by omega, by omega, fun n H7 n0 n1 D7 x7 => ?_⟩
    obtain ⟨n, rfl⟩ := Int.eq_ofNat_of_zero_le n0
    have hus7 := hus.ext x7 nlu
    walk_at "rr"
    refine ⟨(n : Int), rfl, by omega, by omega, fun M hM => ?_⟩
    have nM : ¬ Dk d c M := D7.off hM
    refine lc_range (lo := 0) (n := n) (fun i H' => ∃ (rs : List V) (cds : List Cond), H' M = some (.lst rs) ∧ DTs H' rs (cds.map Cond.d) ∧ cds.length = i ∧ (∀ cd ∈ cds, cd.In us) ∧ DeckE d c (b + 16 + 13 * i) H' ∧ Ext (Dk d c) H7 H')
      ⟨[], [], upd_same, .nil, rfl, (fun _ z => by cases z), (D7.new hM).mono (by omega), ext_new hM⟩ (fun i H8 hi h => ?_) fun H8 h => ?_
    · obtain ⟨rs, cds, hMr, drs, lcd, hcd, D8, x8⟩ := h
      have lrs : rs.length = i := by rw [drs.len, List.length_map, lcd]
      walk_at "rr"
      refine ⟨rfl, k_yes ?_⟩
      walk_at "rr"
      refine ⟨d, c, lu, _, us, rfl, D8, by omega, hus7.ext x8 nlu, nlu, une, by omega, fun a cn H9 icn dcn D9 x9 => ?_⟩
      have hM9 := x9.2 _ _ nM hMr
      have tu : Tups H9 (upd H9 M (.lst (rs ++ [V.ref a]))) := tups_upd hM9 fun _ z => by cases z
      refine ⟨_, hM9, k_szL (by omega), rs ++ [V.ref a], cds ++ [cn], upd_same, ?_, by rw [List.length_append, lcd]; rfl, fun cd hc => ?_, (D9.offL nM).mono (by omega), ext_off (x8.trans x9) hM⟩
      · rw [List.map_append]
        exact ((drs.keep x9.1).keep tu).app (.cons (dcn.keep tu) .nil)
      · rcases List.mem_append.mp hc with hc | hc
        · exact hcd cd hc
        · obtain rfl := List.mem_singleton.mp hc
          exact icn
    obtain ⟨rs, cds, hMr, drs, lcd, hcd, D8, x8⟩ := h
    have x78 := x7.trans x8
    walk_at "rr"
    refine ⟨M, _, rfl, .inl ⟨SqL.of hMr, fun gt hgt => ?_⟩⟩
    have x79 := x78.trans (ext_new (M := Dk d c) (o := .tup rs) hgt)
    have D9 := (D8.new (o := .tup rs) hgt).mono (show b + 16 + 13 * (n : Int) ≤ b + 100 by omega)
    have dts9 : DT (upd H8 gt (.tup rs)) (.ref gt) (.tuple (cds.map Cond.d)) := .tup upd_same (drs.keep (tups_new hgt))
    have hl9 := x79.2 _ _ nl hl6
    generalize upd H8 gt (.tup rs) = H9 at x79 D9 dts9 hl9 ⊢
    have x09 := x06.trans x79
    have hus9 := hus.ext x79 nlu
    have tabs9 := tabs6.ext x79
    have dpr9 := dpr6.keep x79.1
    have gpr9 := x79.1 _ _ gpr6
    have gq19 := x79.1 _ _ gq16
    have oc9 := x79.1 _ _ oc6
    have o9 := x79.1 _ _ o6
    clear hus7 hus tabs6 dpr6 gpr6 gq16 oc6 o6 x06 x79 x78 x7 x8 D7 D8 drs hMr hgt hM hl6 D6
    walk_at "rr"
    refine ⟨d, c, l, b + 100, t0.1, t1.1, t2.1, t3.1, _, _, _, _, _, _, _, _, _, _, _, _, _, rfl, D9, by omega, nl, hl9, fun zs ak H10 hzs gak nak D10 x10 => ?_⟩
    have x010 := x09.trans x10
    have hus10 := hus9.ext x10 nlu
    have tabs10 := tabs9.ext x10
    have dpr10 := dpr9.keep x10.1
    have gpr10 := x10.1 _ _ gpr9
    have gq110 := x10.1 _ _ gq19
    have oc10 := x10.1 _ _ oc9
    have o10 := x10.1 _ _ o9
    have dts10 := dts9.keep x10.1
    have hl10 := x10.2 _ _ nl hl9
    clear hus9 tabs9 dpr9 gpr9 gq19 oc9 o9 dts9 hl9 x09 x10 D9
    obtain ⟨zt, rfl, hzt⟩ : ∃ zt : List AT, zs = zt.map (·.1) ∧ zt ∈ ([[], [t2], [t3], [t2, t3], [t3, t2]] : List (List AT)) := by
      simp only [List.mem_cons, List.not_mem_nil, or_false] at hzs
      rcases hzs with rfl | rfl | rfl | rfl | rfl
      · exact ⟨[], rfl, by simp⟩
      · exact ⟨[t2], rfl, by simp⟩
      · exact ⟨[t3], rfl, by simp⟩
      · exact ⟨[t2, t3], rfl, by simp⟩
      · exact ⟨[t3, t2], rfl, by simp⟩
    have hn23 : t2.2.nm ≠ t3.2.nm := by
      have := tabs10.nd
      simp [namesOf] at this
      exact this.2.2
    have zfact : zt.length ≤ 2 ∧ (zt.map fun x => x.2.nm).Nodup ∧ ∀ x ∈ zt, x ∈ [t2, t3] := by
      simp only [List.mem_cons, List.not_mem_nil, or_false] at hzt
      rcases hzt with rfl | rfl | rfl | rfl | rfl
      · exact ⟨by simp, by simp, by simp⟩
      · exact ⟨by simp, by simp, by simp⟩
      · exact ⟨by simp, by simp, by simp⟩
      · exact ⟨by simp, by simpa using hn23, by simp⟩
      · refine ⟨by simp, by simpa using hn23.symm, by simp⟩
    obtain ⟨zl, znd, zin⟩ := zfact
    have zin4 : ∀ x ∈ zt, x ∈ [t0, t1, t2, t3] := fun x hx => by
      rcases List.mem_cons.mp (zin x hx) with rfl | h
      · simp
      · obtain rfl := List.mem_singleton.mp h
        simp
    walk_at "rr"
    refine ⟨ak, rfl, ⟨_, SqL.of gak⟩, fun M hM => ?_⟩
    have nM : ¬ Dk d c M := D10.off hM
    refine lc_it (walk_list (xs := (zt.map (·.1)).map V.ref)) (fun i H' => ∃ (rs : List V) (ps : List Prb), H' M = some (.lst rs) ∧ DTs H' rs (ps.map Prb.d) ∧ ps.map Prb.tb = (zt.take i).map (fun x => x.2.nm) ∧ (∀ q ∈ ps, ∃ x ∈ [t2, t3], q.In x.2 us) ∧ DeckE d c (b + 110 + 61 * i) H' ∧ Ext (Dk d c) H10 H')
      ⟨[], [], upd_same, .nil, rfl, (fun _ z => by cases z), (D10.new hM).mono (by omega), ext_new hM⟩ (fun i H' _ h => ?_) (fun i x H11 H12 hi h y => ?_) fun H11 h => ?_
    · obtain ⟨_, _, _, _, _, _, _, x5⟩ := h
      exact SqL.of (x5.2 _ _ nak gak)
    · obtain ⟨rs, ps, hMr, drs, pcol, pok, D11, x11⟩ := h
      obtain ⟨rfl, y⟩ := y
      have e : ((zt.map (·.1)).map V.ref)[i]? = some x := y
      rw [List.map_map, List.getElem?_map] at e
      obtain ⟨t, ht, rfl⟩ := Option.map_eq_some_iff.mp e
      have hi3 : i < zt.length := (List.getElem?_eq_some_iff.mp ht).1
      have mt := List.mem_of_getElem? ht
      have lps : ps.length = i := by
        have : (ps.map Prb.tb).length = ((zt.take i).map fun x => x.2.nm).length := by rw [pcol]
        rw [List.length_map, List.length_map, List.length_take] at this
        omega
      have lrs : rs.length = i := by rw [drs.len, List.length_map, lps]
      walk_at "rr"
      refine ⟨rfl, k_yes ?_⟩
      walk_at "rr"
      refine ⟨d, c, t.1, lu, _, t.2, us, rfl, D11, by omega, (tabs10.at_ t (zin4 t mt)).ext x11, tabs10.ok t (zin4 t mt), hus10.ext x11 nlu, nlu, une, by omega, fun a p H13 pin dp D13 x13 => ?_⟩
      have hM13 := x13.2 _ _ nM hMr
      have tu : Tups H13 (upd H13 M (.lst (rs ++ [V.ref a]))) := tups_upd hM13 fun _ z => by cases z
      refine ⟨_, hM13, k_szL (by omega), rs ++ [V.ref a], ps ++ [p], upd_same, ?_, ?_, fun q hq => ?_, (D13.offL nM).mono (by omega), ext_off (x11.trans x13) hM⟩
      · rw [List.map_append]
        exact ((drs.keep x13.1).keep tu).app (.cons (dp.keep tu) .nil)
      · rw [List.map_append, pcol, List.take_add_one, ht, List.map_append]
        show _ ++ [p.tb] = _ ++ [t.2.nm]
        rw [pin.tb]
      · rcases List.mem_append.mp hq with hq | hq
        · exact pok q hq
        · obtain rfl := List.mem_singleton.mp hq
          exact ⟨t, zin t mt, pin⟩
    obtain ⟨rs2, ps, hMr, drs, pcol, pok, D11, x11⟩ := h
    rw [List.length_map, List.length_map] at pcol D11
    rw [List.take_length] at pcol
    have lps : ps.length = zt.length := by
      have : (ps.map Prb.tb).length = (zt.map fun x => x.2.nm).length := by rw [pcol]
      rwa [List.length_map, List.length_map] at this
    walk_at "rr"
    refine ⟨M, _, rfl, .inl ⟨SqL.of hMr, fun gp hgp => ?_⟩⟩
    have x12 := x11.trans (ext_new (M := Dk d c) (o := .tup rs2) hgp)
    have D12 := (D11.new (o := .tup rs2) hgp).mono (show b + 110 + 61 * (zt.length : Int) ≤ b + 250 by omega)
    have dps12 : DT (upd H11 gp (.tup rs2)) (.ref gp) (.tuple (ps.map Prb.d)) := .tup upd_same (drs.keep (tups_new hgp))
    generalize upd H11 gp (.tup rs2) = H12 at x12 D12 dps12 ⊢
    have x012 := x010.trans x12
    have hus12 := hus10.ext x12 nlu
    have tabs12 := tabs10.ext x12
    have dpr12 := dpr10.keep x12.1
    have gpr12 := x12.1 _ _ gpr10
    have gq112 := x12.1 _ _ gq110
    have oc12 := x12.1 _ _ oc10
    have o12 := x12.1 _ _ o10
    have dts12 := dts10.keep x12.1
    have hl12 := x12.2 _ _ nl hl10
    clear hus10 tabs10 dpr10 gpr10 gq110 oc10 o10 dts10 hl10 x010 x12 x11 D10 D11 drs hMr hgp hM gak
    walk_at "rr"
    have ok0 := tabs12.ok t0 (by simp)
    refine ⟨d, c, c0, lu, pr, q1, _, kind, z1, fi, t0.2.cs, us, prest, rfl, D12, by omega, oc12, ok0.c1, ok0.c3, ok0.cd, hus12, nlu, by omega, gpr12, gq112, uin, hkind, fun gs sets H13 sok dst D13 x13 => ?_⟩
    obtain ⟨uv, huv, duv⟩ := hus12.ext x13 nlu
    have luv : uv.length = us.length := by rw [duv.len, List.length_map]
    have upos : 0 < us.length := List.length_pos_iff.mpr une
    walk_at "rr"
    refine ⟨d, c, _, 4, rfl, D13, by omega, by decide, by decide, fun n2 H14 n20 n21 D14 x14 => ?_⟩
    obtain ⟨n2, rfl⟩ := Int.eq_ofNat_of_zero_le n20
    have x1314 := x13.trans x14
    walk_at "rr"
    refine ⟨(n2 : Int), rfl, by omega, by omega, fun M hM => ?_⟩
    have nM : ¬ Dk d c M := D14.off hM
    refine lc_range (lo := 0) (n := n2) (fun i H' => ∃ (rs : List V) (td : List Use), H' M = some (.lst rs) ∧ DTs H' rs (td.map useD) ∧ td.length = i ∧ (∀ u ∈ td, u ∈ us) ∧ DeckE d c (b + 320 + i) H' ∧ Ext (Dk d c) H14 H')
      ⟨[], [], upd_same, .nil, rfl, (fun _ z => by cases z), (D14.new hM).mono (by omega), ext_new hM⟩ (fun i H15 hi h => ?_) fun H15 h => ?_
    · obtain ⟨rs, td, hMr, drs, ltd, htd, D15, x15⟩ := h
      have lrs : rs.length = i := by rw [drs.len, List.length_map, ltd]
      walk_at "rr"
      refine ⟨rfl, k_yes ?_⟩
      walk_at "rr"
      refine ⟨d, c, lu, _, uv, rfl, D15, by omega, .inl ⟨x15.2 _ _ nlu (x14.2 _ _ nlu huv), nlu⟩, by omega, by omega, fun x H16 hx D16 x16 => ?_⟩
      obtain ⟨u, mu, du⟩ := pick_use (((duv.keep x14.1).keep x15.1).keep x16.1) hx
      have hM16 := x16.2 _ _ nM hMr
      have tu : Tups H16 (upd H16 M (.lst (rs ++ [x]))) := tups_upd hM16 fun _ z => by cases z
      refine ⟨_, hM16, k_szL (by omega), rs ++ [x], td ++ [u], upd_same, ?_, by rw [List.length_append, ltd]; rfl, fun v hv => ?_, (D16.offL nM).mono (by omega), ext_off (x15.trans x16) hM⟩
      · rw [List.map_append]
        exact ((drs.keep x16.1).keep tu).app (.cons (du.keep tu) .nil)
      · rcases List.mem_append.mp hv with hv | hv
        · exact htd v hv
        · obtain rfl := List.mem_singleton.mp hv
          exact mu
    obtain ⟨rs3, td, hMr, drs, ltd, htd, D15, x15⟩ := h
    walk_at "rr"
    refine ⟨M, _, rfl, .inl ⟨SqL.of hMr, fun gl hgl => ?_⟩⟩
    have xF := (x1314.trans x15).trans (ext_new (M := Dk d c) (o := .tup rs3) hgl)
    have D16 := (D15.new (o := .tup rs3) hgl).mono (show b + 320 + (n2 : Int) ≤ b + 400 by omega)
    have dtd : DT (upd H15 gl (.tup rs3)) (.ref gl) (.tuple (td.map useD)) := .tup upd_same (drs.keep (tups_new hgl))
    have dst16 := dst.keep (((x14.trans x15).trans (ext_new (M := Dk d c) (o := .tup rs3) hgl)).1)
    generalize upd H15 gl (.tup rs3) = H16 at xF D16 dtd dst16 ⊢
    have hl16 := xF.2 _ _ nl hl12
    have o16 := xF.1 _ _ o12
    walk_at "rr"
    refine ⟨k_sz rfl, fun a ha => ?_⟩
    have tu : Tups H16 (upd H16 a (.tup [.str kind, .str t0.2.nm, .ref pr, .ref gt, .ref gp, .ref gs, .ref gl])) := tups_new ha
    refine k a ⟨kind, t0.2.nm, refs, cds, ps, sets, td⟩ _ ?_ (.tup upd_same (.cons (.str _) (.cons (.str _) (.cons ((dpr12.keep xF.1).keep tu) (.cons ((dts12.keep xF.1).keep tu) (.cons ((dps12.keep xF.1).keep tu) (.cons (dst16.keep tu) (.cons (dtd.keep tu) .nil)))))))) ((D16.mono (by omega)).new ha) ((x012.trans xF).trans (ext_new ha))
    refine ⟨hkind, ⟨t0, rfl, rfl, fun r hr => ?_⟩, lrefs.1, lrefs.2, ?_, ?_, hrt, fun ne r hr => ?_, by show cds.length ≤ most; omega, ?_, by show ps.length ≤ 2; omega, by show (ps.map Prb.tb).Nodup; rw [pcol]; exact znd, ?_, by show td.length ≤ 3; omega, ?_⟩
    · have hr' : refs[0]? = some r := hr
      rw [hr0] at hr'
      cases hr'
      show SetsOk kind t0.2.cs (usesOf _ refs) z1 sets
      rw [hus0]
      exact sok
    · show (refs.map (·.1)).Nodup
      have nd12 := has.nd
      rcases hrefs with rfl | rfl
      · simp
      · simpa using nd12
    · show ∀ r ∈ refs, isNameB r.1 = true
      intro r hr
      have n1 := has.nm z1 (by simp)
      have n2 := has.nm z2 (by simp)
      rcases hrefs with rfl | rfl
      · obtain rfl := List.mem_singleton.mp hr
        exact n1
      · rcases List.mem_cons.mp hr with rfl | hr
        · exact n1
        · obtain rfl := List.mem_singleton.mp hr
          exact n2
    · have hr' : refs[0]? = some r := hr
      rw [hr0] at hr'
      cases hr'
      exact hf1 ne
    · show ∀ cd ∈ cds, cd.In (usesOf _ refs)
      rw [hus0]
      exact hcd
    · show ∀ q ∈ ps, ∃ x ∈ [t2, t3], q.In x.2 (usesOf _ refs)
      rw [hus0]
      exact pok
    · show ∀ u ∈ td, u ∈ usesOf _ refs
      rw [hus0]
      exact htd
end
end K11

set_option Elab.async false
set_option maxRecDepth 100000
set_option maxHeartbeats 4000000
set_option linter.unusedVariables false
namespace K11
open PySem PySem.Spec PyProof.Rows L2 Own StX
-- steps
local macro_rules | `(tactic| walk_at "lk") => `(tactic| first
  | assumption | exact upd_same
  | ((with_reducible refine' lk_new ?e (by assumption)); (case e => walk_at "lk"))
  | ((with_reducible refine' lk_ext (by assumption) ?e); (case e => walk_at "lk"))
  | ((with_reducible refine' lk_same (by assumption) ?e); (case e => walk_at "lk")))
local macro_rules | `(tactic| walk_at "sq") => `(tactic| first | assumption | exact SqL.of (by walk_at "lk") | exact SqT.of (by walk_at "lk"))
local macro_rules | `(tactic| walk_at "r1") => `(tactic| first
  | with_reducible refine k_seq ?_ | with_reducible refine k_asg ?_ | with_reducible refine k_ret ?_ | with_reducible refine k_drop ?_ | with_reducible refine k_next ?_ | with_reducible refine k_ifS ?_
  | ((with_reducible refine' k_var ?e ?_); (case e => exact rfl)) | with_reducible refine k_c ?_ | with_reducible refine k_op ?_ | with_reducible refine k_un ?_ | with_reducible refine k_test ?_ | with_reducible refine k_B ?_
  | with_reducible refine k_and ?_ | with_reducible refine k_or ?_ | with_reducible refine k_not ?_ | with_reducible refine k_andV ?_ | with_reducible refine k_orV ?_ | with_reducible refine k_notV ?_ | with_reducible refine k_if ?_
  | with_reducible refine k_nil ?_ | with_reducible refine k_cons ?_ | with_reducible refine k_tup ?_ | with_reducible refine k_lst ?_ | with_reducible refine k_call ?_ | with_reducible refine k_cb ?_ | with_reducible refine k_ck ?_
  | with_reducible refine k_par ?_ | with_reducible refine k_par1 ?_ | with_reducible refine k_tr ?_ | with_reducible refine k_rI0 ?_ | with_reducible refine k_rU ?_
  | with_reducible refine k_gN ?_ | with_reducible refine k_gS ?_ | with_reducible refine k_gNil ?_ | with_reducible refine k_gCons ?_ | with_reducible refine k_bm0 ?_ | with_reducible refine k_bm ?_
  | with_reducible refine k_for ?_ | with_reducible refine k_iL ?_ | with_reducible refine k_iT ?_ | with_reducible refine k_iR1 ?_ | ((with_reducible refine k_iR1i ?e ?_); (case e => first | decide | exact ⟨by omega, by omega⟩))
  | with_reducible refine k_max ?_ | with_reducible refine k_isB ?_ | with_reducible refine k_sl ?_ | with_reducible refine k_noP ?_ | with_reducible refine k_part ?_ | with_reducible refine k_partI ?_ | with_reducible refine k_revL ?_
  | ((with_reducible refine' k_ixqT ?e ?f ?_); (case e => walk_at "sq"); (case f => first | exact rfl | exact atI_head))
  | ((with_reducible refine' k_ixqL ?e ?f ?_); (case e => walk_at "sq"); (case f => first | exact rfl | exact atI_head))
  | ((with_reducible refine' k_lenL ?e ?_); (case e => walk_at "sq"))
  | ((with_reducible refine' k_lenT ?e ?_); (case e => walk_at "sq"))
  | ((with_reducible refine' k_ixL ?e ?f ?_); (case e => walk_at "sq"); (case f => first | exact rfl | exact atI_head))
  | ((with_reducible refine' k_ixT ?e ?f ?_); (case e => walk_at "sq"); (case f => first | exact rfl | exact atI_head))
  | ((with_reducible refine k_eq ?e ?_); (case e => exact rfl)) | ((with_reducible refine k_ne ?e ?_); (case e => exact rfl))
  | ((with_reducible refine k_rI ?e ?_); (case e => first | assumption | omega | decide | exact ⟨by omega, by omega⟩ | exact .inl ⟨by omega, by omega⟩ | exact .inr ⟨by omega, by omega⟩)))
local macro_rules | `(tactic| walk_at "rd") => `(tactic| repeat walk_at "r1")
local macro_rules | `(tactic| walk_at "r2") => `(tactic| first
  | walk_at "r1"
  | with_reducible refine k_ifTt ?_ | with_reducible refine k_ifFf ?_ | with_reducible refine k_ifNt ?_ | with_reducible refine k_ifNf ?_
  | with_reducible refine k_makeR ?_ | with_reducible refine k_tJ ?_ | with_reducible refine k_tJc ?_ | with_reducible refine k_tJn ?_ | with_reducible refine k_fmt ?_ | with_reducible refine k_lc ?_ | with_reducible refine k_din ?_ | with_reducible refine k_fld ?_ | with_reducible refine k_dget ?_
  | with_reducible refine k_dput ?_
  | with_reducible refine k_isNv ?_
  | with_reducible refine k_notNv ?_
  | with_reducible refine k_str ?_
  | with_reducible refine k_enumT ?_
  | with_reducible refine k_zipA ?_
  | with_reducible refine k_chain ?_
  | ((with_reducible refine' k_dgS ?e dkv_cells ?_); (case e => walk_at "lk"))
  | ((with_reducible refine' k_dgS ?e dkv_mixed ?_); (case e => walk_at "lk"))
  | ((with_reducible refine' k_dgS ?e dkv_turn ?_); (case e => walk_at "lk")))
local macro_rules | `(tactic| walk_at "rr") => `(tactic| repeat walk_at "r2")
-- steps end
def spMk (C : Addr) : Sp := fun vs H Q E => ∃ ws rest, vs = ws ++ rest ∧ ws.length = 1 ∧ rest.length ≤ sizeLine ∧ ∀ p, H p = Option.none → spInit C (ws ++ [V.ref p]) (upd H p (.tup rest)) Q E
section
variable {P : Program} {w : World} {K : PySem.W.Frag} {mg : Str → Option Value} {g0 : Heap} {C : Addr}
abbrev s_schema : Stmt := top 81
theorem sc_schema : FnScope ["_law_tables_here", "_law_a", "_law_b", "_law_c", "_law_d"] ["_law_tables_here"] (defScope s_schema) :=
  ⟨rfl, rfl, rfl, by decide +kernel, rfl, by decide +kernel, by decide +kernel⟩
theorem mk_sch {H1 : Hp} {ts : List AT} {Q : VK} (hT : Tabs ts H1) (hl : ts.length ≤ 4) (k : ∀ p zs H', SchAt C H' p ts zs → Same H1 H' → Q (.ref p) H') :
    ∀ (x dx : Addr), H1 x = none → H1 dx = none → dx ≠ x → spMk C (V.ref x :: refsOf ts) (upd (upd H1 dx (HO.own x)) x (HO.ins C dx [])) (fun v H2 => v = V.non ∧ Q (V.ref x) H2) E0 := by
  intro x dx hx hdx ne
  have s0 : Same H1 (upd (upd H1 dx (HO.own x)) x (HO.ins C dx [])) := (Same.upd hdx).trans (Same.upd ((upd_ne fun z => ne z.symm).trans hx))
  refine ⟨[.ref x], refsOf ts, rfl, rfl, Nat.le_trans (by unfold refsOf; rw [List.length_map]; exact hl) (by decide), fun u hu => ?_⟩
  have hxx : (upd (upd H1 dx (HO.own x)) x (HO.ins C dx [])) x = some (.ins C dx []) := upd_same
  generalize upd (upd H1 dx (HO.own x)) x (HO.ins C dx []) = H2 at s0 hu hxx ⊢
  have s1 : Same H2 (upd H2 u (.tup (refsOf ts))) := Same.upd hu
  refine ⟨x, dx, u, ts, rfl, s1 _ _ hxx, upd_same, fun y hy => ⟨((hT.at_ y hy).same s0).same s1, hT.ok y hy⟩, hT.nd, hl, fun H' zs S ke => ⟨rfl, k x zs H' S fun a o e => ?_⟩⟩
  exact ke a o (fun z => by rw [z, hx] at e; cases e) (s1 _ _ (s0 _ _ e))
def spSchemaL (C : Addr) : Sp := fun vs H Q _ => ∃ (l : Addr) (ts : List AT), vs = [.ref l] ∧ H l = some (.lst (refsOf ts)) ∧ Tabs ts H ∧ ts.length = 4 ∧ ∀ p zs H', SchAt C H' p ts zs → Same H H' → Q (.ref p) H'
theorem ok_schemaL {f fi : Addr} {fd : FuncData} (F : Fun K "_law_schema" "_law_schema" s_schema f fd) (g_Schema : mg "Schema" = some (.ref C)) (S_mk : Mk K C fi) (S_init : FnR P w K mg g0 CX0 4 fi (spMk C)) :
    GOk P w K mg g0 CX0 6 f fd ["_law_tables_here"] (spSchemaL C) := by
  have nd := sc_schema.nd
  refine okG F sc_schema (fun vs H Q E h => ?_) (fun cdv A up s H vs Q E qt hr h => ?_)
  · obtain ⟨l, ts, rfl, _⟩ := h
    rfl
  · obtain ⟨l, ts, rfl, hl, hT, lt, k⟩ := h
    refine ⟨_, (pss_cons (ps_asg (pv 0) (pg_unl rfl (pgs_cons (pg_name (i := 1) nd rfl (Or.inl rfl)) (pgs_cons (pg_name (i := 2) nd rfl (Or.inl rfl)) (pgs_cons (pg_name (i := 3) nd rfl (Or.inl rfl)) (pgs_cons (pg_name (i := 4) nd rfl (Or.inl rfl)) pgs_nil))))))
        (pss_one (ps_ret (pe_makeR S_mk S_init (hr.mono (by decide)) (by rfl) g_Schema pass0 (pa_cons (pv 1) (pa_cons (pv 2) (pa_cons (pv 3) (pa_cons (pv 4) pa_nil)))))))), ?_⟩
    match ts, lt with
    | [a, b, c, d], _ =>
      walk_at "rr"
      have hl' : H l = some (.lst [V.ref a.1, V.ref b.1, V.ref c.1, V.ref d.1]) := hl
      refine ⟨l, _, rfl, SqL.of hl', rfl, ?_⟩
      walk_at "rr"
      exact mk_sch hT (by show 4 ≤ 4; decide) k
end
end K11

set_option Elab.async false
set_option maxRecDepth 100000
set_option maxHeartbeats 4000000
set_option linter.unusedVariables false
namespace K11
open PySem PySem.Spec PyProof.Rows L2 Own
-- steps
local macro_rules | `(tactic| walk_at "lk") => `(tactic| first
  | assumption | exact upd_same
  | ((with_reducible refine' lk_new ?e (by assumption)); (case e => walk_at "lk"))
  | ((with_reducible refine' lk_ext (by assumption) ?e); (case e => walk_at "lk"))
  | ((with_reducible refine' lk_same (by assumption) ?e); (case e => walk_at "lk")))
local macro_rules | `(tactic| walk_at "sq") => `(tactic| first | assumption | exact SqL.of (by walk_at "lk") | exact SqT.of (by walk_at "lk"))
local macro_rules | `(tactic| walk_at "r1") => `(tactic| first
  | with_reducible refine k_seq ?_ | with_reducible refine k_asg ?_ | with_reducible refine k_ret ?_ | with_reducible refine k_drop ?_ | with_reducible refine k_next ?_ | with_reducible refine k_ifS ?_
  | ((with_reducible refine' k_var ?e ?_); (case e => exact rfl)) | with_reducible refine k_c ?_ | with_reducible refine k_op ?_ | with_reducible refine k_un ?_ | with_reducible refine k_test ?_ | with_reducible refine k_B ?_
  | with_reducible refine k_and ?_ | with_reducible refine k_or ?_ | with_reducible refine k_not ?_ | with_reducible refine k_andV ?_ | with_reducible refine k_orV ?_ | with_reducible refine k_notV ?_ | with_reducible refine k_if ?_
  | with_reducible refine k_nil ?_ | with_reducible refine k_cons ?_ | with_reducible refine k_tup ?_ | with_reducible refine k_lst ?_ | with_reducible refine k_call ?_ | with_reducible refine k_cb ?_ | with_reducible refine k_ck ?_
  | with_reducible refine k_par ?_ | with_reducible refine k_par1 ?_ | with_reducible refine k_tr ?_ | with_reducible refine k_rI0 ?_ | with_reducible refine k_rU ?_
  | with_reducible refine k_gN ?_ | with_reducible refine k_gS ?_ | with_reducible refine k_gNil ?_ | with_reducible refine k_gCons ?_ | with_reducible refine k_bm0 ?_ | with_reducible refine k_bm ?_
  | with_reducible refine k_for ?_ | with_reducible refine k_iL ?_ | with_reducible refine k_iT ?_ | with_reducible refine k_iR1 ?_ | ((with_reducible refine k_iR1i ?e ?_); (case e => first | decide | exact ⟨by omega, by omega⟩))
  | with_reducible refine k_max ?_ | with_reducible refine k_isB ?_ | with_reducible refine k_sl ?_ | with_reducible refine k_noP ?_ | with_reducible refine k_part ?_ | with_reducible refine k_partI ?_ | with_reducible refine k_revL ?_
  | ((with_reducible refine' k_ixqT ?e ?f ?_); (case e => walk_at "sq"); (case f => first | exact rfl | exact atI_head))
  | ((with_reducible refine' k_ixqL ?e ?f ?_); (case e => walk_at "sq"); (case f => first | exact rfl | exact atI_head))
  | ((with_reducible refine' k_lenL ?e ?_); (case e => walk_at "sq"))
  | ((with_reducible refine' k_lenT ?e ?_); (case e => walk_at "sq"))
  | ((with_reducible refine' k_ixL ?e ?f ?_); (case e => walk_at "sq"); (case f => first | exact rfl | exact atI_head))
  | ((with_reducible refine' k_ixT ?e ?f ?_); (case e => walk_at "sq"); (case f => first | exact rfl | exact atI_head))
  | ((with_reducible refine k_eq ?e ?_); (case e => exact rfl)) | ((with_reducible refine k_ne ?e ?_); (case e => exact rfl))
  | ((with_reducible refine k_rI ?e ?_); (case e => first | assumption | omega | decide | exact ⟨by omega, by omega⟩ | exact .inl ⟨by omega, by omega⟩ | exact .inr ⟨by omega, by omega⟩)))
local macro_rules | `(tactic| walk_at "rd") => `(tactic| repeat walk_at "r1")
local macro_rules | `(tactic| walk_at "r2") => `(tactic| first
  | walk_at "r1"
  | with_reducible refine k_ifTt ?_ | with_reducible refine k_ifFf ?_ | with_reducible refine k_ifNt ?_ | with_reducible refine k_ifNf ?_
  | with_reducible refine k_makeR ?_ | with_reducible refine k_tJ ?_ | with_reducible refine k_tJc ?_ | with_reducible refine k_tJn ?_ | with_reducible refine k_fmt ?_ | with_reducible refine k_lc ?_ | with_reducible refine k_din ?_ | with_reducible refine k_fld ?_ | with_reducible refine k_dget ?_
  | with_reducible refine k_dput ?_
  | with_reducible refine k_isNv ?_
  | with_reducible refine k_notNv ?_
  | with_reducible refine k_str ?_
  | with_reducible refine k_enumT ?_
  | with_reducible refine k_zipA ?_
  | with_reducible refine k_chain ?_
  | ((with_reducible refine' k_dgS ?e dkv_cells ?_); (case e => walk_at "lk"))
  | ((with_reducible refine' k_dgS ?e dkv_mixed ?_); (case e => walk_at "lk"))
  | ((with_reducible refine' k_dgS ?e dkv_turn ?_); (case e => walk_at "lk")))
local macro_rules | `(tactic| walk_at "rr") => `(tactic| repeat walk_at "r2")
-- steps end
/-! ### uses: in -/
def UsOk (us : List Use) : Prop := ∀ u ∈ us, isNameB u.1 = true ∧ isNameB u.2 = true
theorem use_lay {u : Use} (h1 : isNameB u.1 = true) (h2 : isNameB u.2 = true) : (useD u).canLay0 = true := by
  unfold useD
  show (PyData.strOk u.1 && (PyData.strOk u.2 && true)) = true
  rw [name_ok h1, name_ok h2]
  rfl
theorem uses_lay : ∀ {us : List Use}, UsOk us → PyData.canLayAll0 (us.map useD) = true
  | [], _ => rfl
  | u :: us, h => by
    have q := h u List.mem_cons_self
    show ((useD u).canLay0 && PyData.canLayAll0 (us.map useD)) = true
    rw [use_lay q.1 q.2, uses_lay fun v hv => h v (List.mem_cons_of_mem _ hv)]
    rfl
theorem use_mem {u : Use} {us : List Use} (h : UsOk us) (m : u ∈ us) : ((us.map useD).any fun z => PyData.eqv z (useD u)) = true := by
  rw [List.any_eq_true]
  have q := h u m
  exact ⟨useD u, List.mem_map.mpr ⟨u, m, rfl⟩, SeqAt.eqv_refl _ (use_lay q.1 q.2)⟩
def rInU (K : PySem.W.Frag) : R2 := fun x y H Q => ∃ (u : Use) (us : List Use), Dp K H x (useD u) ∧ (Dp K H y (.tuple (us.map useD)) ∨ Dp K H y (.list (us.map useD))) ∧ u ∈ us ∧ UsOk us ∧ Q (.bl true) H
theorem op_inU {X : Cx} {K : PySem.W.Frag} (e : X.K = K) (hu : X.A.units + 65 < cLine) : OpR X (compareOp .In) (rInU K) := by
  subst e
  intro pins s σ H x y v w Q I rx ry h
  obtain ⟨u, us, hd, he, m, ok, q⟩ := h
  obtain ⟨as, r1⟩ := Dp.reads I (useD u) x v hd rx
  have l1 := use_lay (ok u m).1 (ok u m).2
  have l2 := uses_lay ok
  have dd : (useD u).depth ≤ 1 := by
    show max 0 (max 0 0) + 1 ≤ 1
    decide
  have rm : X.A.units + 1 + min (PyData.depthAll (us.map useD)) (useD u).depth < cLine := by
    have : min (PyData.depthAll (us.map useD)) (useD u).depth ≤ (useD u).depth := Nat.min_le_right _ _
    omega
  have fin : EP X pins σ Q (.bool ((us.map useD).any fun z => PyData.eqv z (useD u))) s := by
    rw [use_mem ok m]
    exact ⟨.bl true, H, I, rfl, q⟩
  rcases he with he | he
  · obtain ⟨bs, r2⟩ := Dp.reads I (.tuple (us.map useD)) y w he ry
    exact SeqAt.in_tuple_reads r2 r1 l2 l1 rm fin
  · obtain ⟨bs, r2⟩ := Dp.reads I (.list (us.map useD)) y w he ry
    exact SeqAt.in_list_reads r2 r1 l2 l1 rm fin
theorem optU_isN {H : Hp} {v : V} {o : Option Use} (h : DT H v (optU o)) : (o = none ∧ v = .non) ∨ ∃ u a, o = some u ∧ v = .ref a ∧ DT H v (useD u) := by
  cases o with
  | none =>
    cases h
    exact .inl ⟨rfl, rfl⟩
  | some u =>
    obtain ⟨a, xs, rfl, _⟩ := h.unT
    exact .inr ⟨u, a, rfl, rfl, h⟩
theorem optS_isN {H : Hp} {v : V} {o : Option Str} (h : DT H v (optS o)) : (o = none ∧ v = .non) ∨ ∃ z, o = some z ∧ v = .str z := by
  cases o with
  | none =>
    cases h
    exact .inl ⟨rfl, rfl⟩
  | some z => exact .inr ⟨z, rfl, h.unS⟩
theorem cond_at {H : Hp} {v : V} {c : Cond} (h : DT H v c.d) : ∃ (a : Addr) (x y : V), v = .ref a ∧ H a = some (.tup [x, .str c.op, y, .int c.k]) ∧ DT H x (useD c.x) ∧ DT H y (optU c.y) := by
  obtain ⟨a, xs, rfl, ha, hs⟩ := h.unT
  cases hs with
  | cons h1 hs => cases hs with
    | cons h2 hs => cases hs with
      | cons h3 hs => cases hs with
        | cons h4 hs => cases hs with
          | nil =>
            cases h2
            cases h4
            exact ⟨a, _, _, rfl, ha, h1, h3⟩
theorem cmp_at {H : Hp} {v : V} {c : Cmp} (h : DT H v c.d) : ∃ (a : Addr) (y : V), v = .ref a ∧ H a = some (.tup [.str c.col, .str c.op, y, .int c.k]) ∧ DT H y (optS c.other) := by
  obtain ⟨a, xs, rfl, ha, hs⟩ := h.unT
  cases hs with
  | cons h1 hs => cases hs with
    | cons h2 hs => cases hs with
      | cons h3 hs => cases hs with
        | cons h4 hs => cases hs with
          | nil =>
            cases h1
            cases h2
            cases h4
            exact ⟨a, _, rfl, ha, h3⟩
theorem stg_at {H : Hp} {v : V} {c : Stg} (h : DT H v c.d) : ∃ (a : Addr) (y : V), v = .ref a ∧ H a = some (.tup [.str c.col, y, .int c.k]) ∧ DT H y (optU c.src) := by
  obtain ⟨a, xs, rfl, ha, hs⟩ := h.unT
  cases hs with
  | cons h1 hs => cases hs with
    | cons h2 hs => cases hs with
      | cons h3 hs => cases hs with
        | nil =>
          cases h1
          cases h3
          exact ⟨a, _, rfl, ha, h2⟩
theorem prb_at {H : Hp} {v : V} {p : Prb} (h : DT H v p.d) : ∃ (a o l : Addr) (os : List V) (y : V), v = .ref a ∧ H a = some (.tup [.str p.word, .str p.tb, .ref o, .ref l]) ∧ H o = some (.tup os) ∧ DTs H os (p.own.map Cmp.d) ∧ H l = some (.tup [.str p.col, .str p.op, y, .int p.k]) ∧ DT H y (useD p.use) := by
  obtain ⟨a, xs, rfl, ha, hs⟩ := h.unT
  cases hs with
  | cons h1 hs => cases hs with
    | cons h2 hs => cases hs with
      | cons h3 hs => cases hs with
        | cons h4 hs => cases hs with
          | nil =>
            cases h1
            cases h2
            obtain ⟨o, os, rfl, ho, hos⟩ := h3.unT
            obtain ⟨l, ls, rfl, hl, hls⟩ := h4.unT
            cases hls with
            | cons g1 hls => cases hls with
              | cons g2 hls => cases hls with
                | cons g3 hls => cases hls with
                  | cons g4 hls => cases hls with
                    | nil =>
                      cases g1
                      cases g2
                      cases g4
                      exact ⟨a, o, l, os, _, rfl, ha, ho, hos, hl, g3⟩
section
variable {P : Program} {w : World} {K : PySem.W.Frag} {mg : Str → Option Value} {base : Heap}
abbrev s_is_integer : Stmt := top 8
theorem sc_is_integer : FnScope ["thing"] ["thing"] (defScope s_is_integer) :=
  ⟨rfl, rfl, rfl, by decide +kernel, rfl, by decide +kernel, by decide +kernel⟩
abbrev s__are_few : Stmt := top 25
theorem sc__are_few : FnScope ["thing", "most"] ["thing", "most"] (defScope s__are_few) :=
  ⟨rfl, rfl, rfl, by decide +kernel, rfl, by decide +kernel, by decide +kernel⟩
abbrev s__is_condition : Stmt := top 27
theorem sc__is_condition : FnScope ["cells", "thing", "x", "sign", "y", "k"] ["cells", "thing"] (defScope s__is_condition) :=
  ⟨rfl, rfl, rfl, by decide +kernel, rfl, by decide +kernel, by decide +kernel⟩
abbrev s__is_own : Stmt := top 30
theorem sc__is_own : FnScope ["columns", "thing", "column", "sign", "other", "k"] ["columns", "thing"] (defScope s__is_own) :=
  ⟨rfl, rfl, rfl, by decide +kernel, rfl, by decide +kernel, by decide +kernel⟩
abbrev s__is_link : Stmt := top 31
theorem sc__is_link : FnScope ["columns", "cells", "thing", "column", "sign", "reference", "k"] ["columns", "cells", "thing"] (defScope s__is_link) :=
  ⟨rfl, rfl, rfl, by decide +kernel, rfl, by decide +kernel, by decide +kernel⟩
abbrev s__is_setting : Stmt := top 33
theorem sc__is_setting : FnScope ["columns", "sources", "thing", "column", "source", "k"] ["columns", "sources", "thing"] (defScope s__is_setting) :=
  ⟨rfl, rfl, rfl, by decide +kernel, rfl, by decide +kernel, by decide +kernel⟩
def spInt : Sp := fun vs H Q _ => ∃ i : Int, vs = [.int i] ∧ Q (.bl true) H
theorem ok_int {f : Addr} {fd : FuncData} (F : Fun K "is_integer" "is_integer" s_is_integer f fd) (z_isinstance : mg "isinstance" = none) (z_int : mg "int" = none) (z_bool : mg "bool" = none) : FnOk P w K mg base CX0 1 f fd ["thing"] spInt := by
  have nd := sc_is_integer.nd
  refine F.ok sc_is_integer (fun vs H Q E h => ?_) (fun cdv A up s H vs Q E hr h => ?_)
  · obtain ⟨i, rfl, _⟩ := h
    rfl
  · obtain ⟨i, rfl, k⟩ := h
    refine ⟨_, (pss_one (ps_ret (pe_and (pe_callB call_isi (by rfl) z_isinstance (by decide +kernel) (pa_cons (pv 0) (pa_cons (pe_bltn (v := .ty "int") (by rfl) z_int PyProof.Rows.boot_int rfl) pa_nil))) (pe_one (pe_not (pe_callB call_isi (by rfl) z_isinstance (by decide +kernel) (pa_cons (pv 0) (pa_cons (pe_bltn (v := .ty "bool") (by rfl) z_bool PyProof.Rows.boot_bool rfl) pa_nil)))))))), ?_⟩
    walk_at "rr"
    refine isi_t (.base (.int _)) (b := true) (by decide +kernel) ?_
    walk_at "rr"
    refine isi_t (.base (.int _)) (b := false) (by decide +kernel) ?_
    walk_at "rr"
    exact k
def spFew : Sp := fun vs H Q _ => ∃ (a : Addr) (xs : List V) (n : Int), vs = [.ref a, .int n] ∧ H a = some (.tup xs) ∧ (xs.length : Int) ≤ n ∧ Q (.bl true) H
theorem ok_few {f : Addr} {fd : FuncData} (F : Fun K "_are_few" "_are_few" s__are_few f fd) (z_isinstance : mg "isinstance" = none) (z_tuple : mg "tuple" = none) (z_len : mg "len" = none) : FnOk P w K mg base CX0 1 f fd ["thing", "most"] spFew := by
  have nd := sc__are_few.nd
  refine F.ok sc__are_few (fun vs H Q E h => ?_) (fun cdv A up s H vs Q E hr h => ?_)
  · obtain ⟨a, xs, n, rfl, _⟩ := h
    rfl
  · obtain ⟨a, xs, n, rfl, ha, hn, k⟩ := h
    refine ⟨_, (pss_one (ps_ret (pe_and (pe_callB call_isi (by rfl) z_isinstance (by decide +kernel) (pa_cons (pv 0) (pa_cons (pe_bltn (v := .ty "tuple") (by rfl) z_tuple PyProof.Rows.boot_tuple rfl) pa_nil))) (pe_one (pe_cmpR op_le (pe_callB (c_lenK (K := K) rfl) (by rfl) z_len (by decide +kernel) (pa_cons (pv 0) pa_nil)) (pv 1) (nomark _)))))), ?_⟩
    walk_at "rr"
    refine isi_t (.base (.tup ha)) (b := true) (by decide +kernel) ?_
    walk_at "rr"
    walk_at "rr"
    rw [decide_eq_true hn]
    exact k
abbrev signs : List Str := ["<=", "=", "!="]
def spCond : Sp := fun vs H Q _ => ∃ (ce a : Addr) (us : List Use) (c : Cond), vs = [.ref ce, .ref a] ∧ DT H (.ref ce) (.tuple (us.map useD)) ∧ DT H (.ref a) c.d ∧ c.In us ∧ UsOk us ∧ Q (.bl true) H
theorem ok_cond {f : Addr} {fd : FuncData} {a_SIGNS : Addr} (F : Fun K "_is_condition" "_is_condition" s__is_condition f fd) (C_is_tuple : CalF P w K mg base "is_tuple" 1 ["thing", "size"] spTuple) (C_is_integer : CalF P w K mg base "is_integer" 1 ["thing"] spInt)
    (c_SIGNS : mg "SIGNS" = some (.ref a_SIGNS)) (e_SIGNS : ∀ H, SqT K H a_SIGNS (signs.map V.str)) : FnOk P w K mg base CX0 2 f fd ["cells", "thing"] spCond := by
  have nd := sc__is_condition.nd
  refine F.ok sc__is_condition (fun vs H Q E h => ?_) (fun cdv A up s H vs Q E hr h => ?_)
  · obtain ⟨ce, a, us, c, rfl, _⟩ := h
    rfl
  · obtain ⟨ce, a, us, c, rfl, hce, hc, ic, ok, k⟩ := h
    obtain ⟨a', x, y, e, ha, hx, hy⟩ := cond_at hc
    cases e
    have h65 : (A.deeper (envOfC "_is_condition" (defScope s__is_condition) s.heap.objs.size f cdv)).units + 65 < cLine := by have := hr.un; omega
    refine ⟨_, (pss_cons (ps_if (pt_not (pt_val (pe_cf C_is_tuple (hr.mono (by decide)) (pa_cons (pv 1) (pa_cons pe_int pa_nil))))) (pss_one (ps_ret pe_bl)) pss_nil)
        (pss_cons (ps_asg (pv 1) (pg_tup rfl (pgs_cons (pg_name (i := 2) nd rfl (Or.inl rfl)) (pgs_cons (pg_name (i := 3) nd rfl (Or.inl rfl)) (pgs_cons (pg_name (i := 4) nd rfl (Or.inl rfl)) (pgs_cons (pg_name (i := 5) nd rfl (Or.inl rfl)) pgs_nil))))))
        (pss_one (ps_ret (pe_and (pe_cmpR (op_inU rfl h65) (pv 2) (pv 0) (by rfl)) (pe_and (pe_cmpR op_in_seq (pv 3) (pe_glob (v := .ref a_SIGNS) rfl c_SIGNS rfl) (by rfl)) (pe_and (pe_or (pe_cmpR op_isN (pv 4) pe_non (nomark _)) (pe_one (pe_cmpR (op_inU rfl h65) (pv 4) (pv 0) (by rfl)))) (pe_one (pe_cf C_is_integer (hr.mono (by decide)) (pa_cons (pv 5) pa_nil)))))))))), ?_⟩
    walk_at "rr"
    refine ⟨a, _, rfl, ha, ?_⟩
    walk_at "rr"
    refine k_gTup (SqT.of ha) rfl ?_
    walk_at "rr"
    refine ⟨c.x, us, hx.dp, .inl hce.dp, ic.1, ok, ?_⟩
    walk_at "rr"
    refine ⟨_, _, rfl, .inr (e_SIGNS H), rfl, flat_strs _, ?_⟩
    rw [if_neg (by decide), inV_str ic.2.2.1]
    walk_at "rr"
    rcases optU_isN hy with ⟨ey, rfl⟩ | ⟨u, b, ey, rfl, hu⟩
    · walk_at "rr"
      refine ⟨rfl, true, rfl, ?_⟩
      walk_at "rr"
      exact ⟨c.k, rfl, k⟩
    · walk_at "rr"
      refine ⟨rfl, false, rfl, ?_⟩
      walk_at "rr"
      refine ⟨u, us, hu.dp, .inl hce.dp, ic.2.1 u ey, ok, ?_⟩
      walk_at "rr"
      exact ⟨c.k, rfl, k⟩
def spOwn : Sp := fun vs H Q _ => ∃ (co a : Addr) (cs : List Str) (c : Cmp), vs = [.ref co, .ref a] ∧ H co = some (.tup (cs.map V.str)) ∧ DT H (.ref a) c.d ∧ c.In cs ∧ Q (.bl true) H
theorem ok_own {f : Addr} {fd : FuncData} {a_OWN_SIGNS : Addr} (F : Fun K "_is_own" "_is_own" s__is_own f fd) (C_is_tuple : CalF P w K mg base "is_tuple" 1 ["thing", "size"] spTuple) (C_is_integer : CalF P w K mg base "is_integer" 1 ["thing"] spInt)
    (c_OWN_SIGNS : mg "OWN_SIGNS" = some (.ref a_OWN_SIGNS)) (e_OWN_SIGNS : ∀ H, SqT K H a_OWN_SIGNS (opt2.map V.str)) : FnOk P w K mg base CX0 2 f fd ["columns", "thing"] spOwn := by
  have nd := sc__is_own.nd
  refine F.ok sc__is_own (fun vs H Q E h => ?_) (fun cdv A up s H vs Q E hr h => ?_)
  · obtain ⟨co, a, cs, c, rfl, _⟩ := h
    rfl
  · obtain ⟨co, a, cs, c, rfl, hco, hc, ic, k⟩ := h
    obtain ⟨a', y, e, ha, hy⟩ := cmp_at hc
    cases e
    refine ⟨_, (pss_cons (ps_if (pt_not (pt_val (pe_cf C_is_tuple (hr.mono (by decide)) (pa_cons (pv 1) (pa_cons pe_int pa_nil))))) (pss_one (ps_ret pe_bl)) pss_nil)
        (pss_cons (ps_asg (pv 1) (pg_tup rfl (pgs_cons (pg_name (i := 2) nd rfl (Or.inl rfl)) (pgs_cons (pg_name (i := 3) nd rfl (Or.inl rfl)) (pgs_cons (pg_name (i := 4) nd rfl (Or.inl rfl)) (pgs_cons (pg_name (i := 5) nd rfl (Or.inl rfl)) pgs_nil))))))
        (pss_one (ps_ret (pe_and (pe_cmpR op_in_seq (pv 2) (pv 0) (by rfl)) (pe_and (pe_cmpR op_in_seq (pv 3) (pe_glob (v := .ref a_OWN_SIGNS) rfl c_OWN_SIGNS rfl) (by rfl)) (pe_and (pe_or (pe_cmpR op_isN (pv 4) pe_non (nomark _)) (pe_one (pe_cmpR op_in_seq (pv 4) (pv 0) (by rfl)))) (pe_one (pe_cf C_is_integer (hr.mono (by decide)) (pa_cons (pv 5) pa_nil)))))))))), ?_⟩
    walk_at "rr"
    refine ⟨a, _, rfl, ha, ?_⟩
    walk_at "rr"
    refine k_gTup (SqT.of ha) rfl ?_
    walk_at "rr"
    refine ⟨_, _, rfl, .inr (SqT.of hco), rfl, flat_strs _, ?_⟩
    rw [if_neg (by decide), inV_str ic.1]
    walk_at "rr"
    refine ⟨_, _, rfl, .inr (e_OWN_SIGNS H), rfl, flat_strs _, ?_⟩
    rw [if_neg (by decide), inV_str ic.2.2.1]
    walk_at "rr"
    rcases optS_isN hy with ⟨ey, rfl⟩ | ⟨z, ey, rfl⟩
    · walk_at "rr"
      refine ⟨rfl, true, rfl, ?_⟩
      walk_at "rr"
      exact ⟨c.k, rfl, k⟩
    · walk_at "rr"
      refine ⟨rfl, false, rfl, ?_⟩
      walk_at "rr"
      refine ⟨_, _, rfl, .inr (SqT.of hco), rfl, flat_strs _, ?_⟩
      rw [if_neg (by decide), inV_str (ic.2.1 z ey)]
      walk_at "rr"
      exact ⟨c.k, rfl, k⟩
def spLink : Sp := fun vs H Q _ => ∃ (co ce a : Addr) (cs : List Str) (us : List Use) (p : Prb) (y : V), vs = [.ref co, .ref ce, .ref a] ∧ H co = some (.tup (cs.map V.str)) ∧ DT H (.ref ce) (.tuple (us.map useD)) ∧ H a = some (.tup [.str p.col, .str p.op, y, .int p.k]) ∧ DT H y (useD p.use) ∧
  p.col ∈ cs ∧ p.op ∈ opt3 ∧ p.use ∈ us ∧ UsOk us ∧ Q (.bl true) H
theorem ok_link {f : Addr} {fd : FuncData} {a_LINK_SIGNS : Addr} (F : Fun K "_is_link" "_is_link" s__is_link f fd) (C_is_tuple : CalF P w K mg base "is_tuple" 1 ["thing", "size"] spTuple) (C_is_integer : CalF P w K mg base "is_integer" 1 ["thing"] spInt)
    (c_LINK_SIGNS : mg "LINK_SIGNS" = some (.ref a_LINK_SIGNS)) (e_LINK_SIGNS : ∀ H, SqT K H a_LINK_SIGNS (opt3.map V.str)) : FnOk P w K mg base CX0 2 f fd ["columns", "cells", "thing"] spLink := by
  have nd := sc__is_link.nd
  refine F.ok sc__is_link (fun vs H Q E h => ?_) (fun cdv A up s H vs Q E hr h => ?_)
  · obtain ⟨co, ce, a, cs, us, p, y, rfl, _⟩ := h
    rfl
  · obtain ⟨co, ce, a, cs, us, p, y, rfl, hco, hce, ha, hy, i1, i2, i3, ok, k⟩ := h
    have h65 : (A.deeper (envOfC "_is_link" (defScope s__is_link) s.heap.objs.size f cdv)).units + 65 < cLine := by have := hr.un; omega
    refine ⟨_, (pss_cons (ps_if (pt_not (pt_val (pe_cf C_is_tuple (hr.mono (by decide)) (pa_cons (pv 2) (pa_cons pe_int pa_nil))))) (pss_one (ps_ret pe_bl)) pss_nil)
        (pss_cons (ps_asg (pv 2) (pg_tup rfl (pgs_cons (pg_name (i := 3) nd rfl (Or.inl rfl)) (pgs_cons (pg_name (i := 4) nd rfl (Or.inl rfl)) (pgs_cons (pg_name (i := 5) nd rfl (Or.inl rfl)) (pgs_cons (pg_name (i := 6) nd rfl (Or.inl rfl)) pgs_nil))))))
        (pss_one (ps_ret (pe_and (pe_cmpR op_in_seq (pv 3) (pv 0) (by rfl)) (pe_and (pe_cmpR op_in_seq (pv 4) (pe_glob (v := .ref a_LINK_SIGNS) rfl c_LINK_SIGNS rfl) (by rfl)) (pe_and (pe_cmpR (op_inU rfl h65) (pv 5) (pv 1) (by rfl)) (pe_one (pe_cf C_is_integer (hr.mono (by decide)) (pa_cons (pv 6) pa_nil)))))))))), ?_⟩
    walk_at "rr"
    refine ⟨a, _, rfl, ha, ?_⟩
    walk_at "rr"
    refine k_gTup (SqT.of ha) rfl ?_
    walk_at "rr"
    refine ⟨_, _, rfl, .inr (SqT.of hco), rfl, flat_strs _, ?_⟩
    rw [if_neg (by decide), inV_str i1]
    walk_at "rr"
    refine ⟨_, _, rfl, .inr (e_LINK_SIGNS H), rfl, flat_strs _, ?_⟩
    rw [if_neg (by decide), inV_str i2]
    walk_at "rr"
    refine ⟨p.use, us, hy.dp, .inl hce.dp, i3, ok, ?_⟩
    walk_at "rr"
    exact ⟨p.k, rfl, k⟩
def spSetting : Sp := fun vs H Q _ => ∃ (co ce a : Addr) (cs : List Str) (us : List Use) (s : Stg), vs = [.ref co, .ref ce, .ref a] ∧ H co = some (.tup (cs.map V.str)) ∧ (Dp K H (.ref ce) (.tuple (us.map useD)) ∨ Dp K H (.ref ce) (.list (us.map useD))) ∧ DT H (.ref a) s.d ∧
  s.col ∈ cs ∧ (∀ u, s.src = some u → u ∈ us) ∧ UsOk us ∧ Q (.bl true) H
theorem ok_setting {f : Addr} {fd : FuncData} (F : Fun K "_is_setting" "_is_setting" s__is_setting f fd) (C_is_tuple : CalF P w K mg base "is_tuple" 1 ["thing", "size"] spTuple) (C_is_integer : CalF P w K mg base "is_integer" 1 ["thing"] spInt) :
    FnOk P w K mg base CX0 2 f fd ["columns", "sources", "thing"] (spSetting (K := K)) := by
  have nd := sc__is_setting.nd
  refine F.ok sc__is_setting (fun vs H Q E h => ?_) (fun cdv A up s H vs Q E hr h => ?_)
  · obtain ⟨co, ce, a, cs, us, c, rfl, _⟩ := h
    rfl
  · obtain ⟨co, ce, a, cs, us, c, rfl, hco, hce, hc, i1, i2, ok, k⟩ := h
    obtain ⟨a', y, e, ha, hy⟩ := stg_at hc
    cases e
    have h65 : (A.deeper (envOfC "_is_setting" (defScope s__is_setting) s.heap.objs.size f cdv)).units + 65 < cLine := by have := hr.un; omega
    refine ⟨_, (pss_cons (ps_if (pt_not (pt_val (pe_cf C_is_tuple (hr.mono (by decide)) (pa_cons (pv 2) (pa_cons pe_int pa_nil))))) (pss_one (ps_ret pe_bl)) pss_nil)
        (pss_cons (ps_asg (pv 2) (pg_tup rfl (pgs_cons (pg_name (i := 3) nd rfl (Or.inl rfl)) (pgs_cons (pg_name (i := 4) nd rfl (Or.inl rfl)) (pgs_cons (pg_name (i := 5) nd rfl (Or.inl rfl)) pgs_nil)))))
        (pss_one (ps_ret (pe_and (pe_cmpR op_in_seq (pv 3) (pv 0) (by rfl)) (pe_and (pe_or (pe_cmpR op_isN (pv 4) pe_non (nomark _)) (pe_one (pe_cmpR (op_inU rfl h65) (pv 4) (pv 1) (by rfl)))) (pe_one (pe_cf C_is_integer (hr.mono (by decide)) (pa_cons (pv 5) pa_nil))))))))), ?_⟩
    walk_at "rr"
    refine ⟨a, _, rfl, ha, ?_⟩
    walk_at "rr"
    refine k_gTup (SqT.of ha) rfl ?_
    walk_at "rr"
    refine ⟨_, _, rfl, .inr (SqT.of hco), rfl, flat_strs _, ?_⟩
    rw [if_neg (by decide), inV_str i1]
    walk_at "rr"
    rcases optU_isN hy with ⟨ey, rfl⟩ | ⟨u, b, ey, rfl, hu⟩
    · walk_at "rr"
      refine ⟨rfl, true, rfl, ?_⟩
      walk_at "rr"
      exact ⟨c.k, rfl, k⟩
    · walk_at "rr"
      refine ⟨rfl, false, rfl, ?_⟩
      walk_at "rr"
      refine ⟨u, us, hu.dp, hce, i2 u ey, ok, ?_⟩
      walk_at "rr"
      exact ⟨c.k, rfl, k⟩
end
end K11

set_option Elab.async false
set_option maxRecDepth 100000
set_option linter.unusedVariables false
/-! class methods, by place and by name; a class in a name called with a star -/
namespace Own
open PySem PySem.Spec PyProof.Rows L2
section
variable {X : Cx} {Z : CXT} {k i : Nat} {f C : Addr} {sp : Sp} {E : XK} {x : Str} {e : Expr} {te : TE} {p sp_ pos : Pos}
/-- x(*e), x a name that holds the class at C -/
def tMkS (K : PySem.W.Frag) (i : Nat) (C : Addr) (sp : Sp) (E : XK) (te : TE) : TE := fun σ H Q => σ[i]? = some (some (.ref C)) ∧ te σ H fun y H1 => ∃ a xs, y = V.ref a ∧ (SqT K H1 a xs ∨ SqL K H1 a xs) ∧
  ∀ x dx, H1 x = none → H1 dx = none → dx ≠ x → sp (V.ref x :: xs) (upd (upd H1 dx (.own x)) x (.ins C dx [])) (fun v H2 => v = .non ∧ Q (.ref x) H2) E
theorem k_mkS {K : PySem.W.Frag} {σ : L2.St} {H : Hp} {Q : VK} (hi : σ[i]? = some (some (.ref C))) (h : te σ H fun y H1 => ∃ a xs, y = V.ref a ∧ (SqT K H1 a xs ∨ SqL K H1 a xs) ∧
  ∀ x dx, H1 x = none → H1 dx = none → dx ≠ x → sp (V.ref x :: xs) (upd (upd H1 dx (.own x)) x (.ins C dx [])) (fun v H2 => v = .non ∧ Q (.ref x) H2) E) : tMkS K i C sp E te σ H Q := ⟨hi, h⟩
theorem pe_makeS (M : Mk X.K C f) (F : FnR X.prog X.w X.K X.mg X.base Z k f sp) (hr : Room (k + 1) X.A) (px : Passes Z X E) (hN : X.N[i]? = some x) (hv : Vis X.env.scope x) (he : PE X e te)
    (hdb : (x == ("__debug__" : Str)) = false := by decide) (hcd : (x == ("__classdict__" : Str)) = false := by decide) (hst : starEach [.Starred e sp_] X.env = [(true, eval e X.env)] := by rfl) :
    PE X (.Call (.Name x p) [.Starred e sp_] [] pos) (tMkS X.K i C sp E te) := by
  refine ⟨fun pins s σ H Q I h => ?_⟩
  obtain ⟨hs, ht⟩ := h
  refine wpAny_Call_Name_kw (thn ((pe_var (pos := p) hN hv hdb hcd).run pins s σ H (fun v H1 => v = .ref C ∧ H1 = H) I ⟨.ref C, hs, rfl, rfl⟩) fun u s1 ⟨v, H1, I1, r1, q1⟩ => ?_)
  obtain ⟨rfl, rfl⟩ := q1
  cases r1
  refine PySem.W.callWith_S (h₀ := X.base) I.ok.mod.kin M.kp (thn (he.run pins s1 σ _ _ I1 ht) fun v s2 ⟨y, H2, I2, ry, a, xs, ey, hxs, q⟩ => ?_) hst
  subst ey
  obtain rfl : v = Value.ref a := ry
  exact StX.star_any I2 hxs fun us s3 I3 rv => ⟨I3.kIn, StX.run_makeR M F hr px I3 rv q⟩
end
section
variable {X : Cx} {Z : CXT} {k n : Nat} {C p g : Addr} {mc : Value} {fd : FuncData} {ps ks : List Str} {sp : Sp} {E : L2.St → XK} {o e : Expr} {es : List Expr} {kws : List Keyword} {m : Str} {pos apos : Pos} {ta : TE} {t tk : TA} {pl : Sem Bool}
  {gg : List Value → List Value → List Value} {gV : List V → List V → List V}
/-- C.m(e, ..), which may raise -/
def tCMS (C : Addr) (sp : Sp) (E : L2.St → XK) (ta : TE) (t : TA) : TE := fun σ H Q => ta σ H fun x H1 => x = .ref C ∧ t σ H1 fun vs H2 => sp (.ref C :: vs) H2 Q (E σ)
theorem k_cms {σ : L2.St} {H : Hp} {Q : VK} (h : ta σ H fun x H1 => x = .ref C ∧ t σ H1 fun vs H2 => sp (.ref C :: vs) H2 Q (E σ)) : tCMS C sp E ta t σ H Q := h
theorem run_cmS {pins : List (Addr × Obj)} {σ : L2.St} {H : Hp} {s : Shared} {q : Addr} {Q : VK} {us : List Value} {vs : List V} (F : FnR X.prog X.w X.K X.mg X.base Z k g sp) (hr : Room k X.A) (hx : PassesAt Z X σ (E σ))
    (I : Inv X ((q, PySem.W.methodObj (.ref g) (.ref C)) :: pins) σ H s) (r : Vals vs us) (h : sp (.ref C :: vs) H Q (E σ)) : wpAny (model X.prog X.w) X.A (call (.ref q) us) (EP X pins σ Q) X.xe s := by
  have z : wpAny (model X.prog X.w) X.A (call (.ref q) us) (EP X ((q, PySem.W.methodObj (.ref g) (.ref C)) :: pins) σ Q) X.xe s := by
    refine wpAny_call (PySem.W.method_call (ClX.pin_at I) (codeAny_mono (F X.A X.stack s H (.ref C :: us) (.ref C :: vs) Q (E σ) hr I.env0 (.cons rfl r) h) fun r s' hq => ?_))
    match r, hq with
    | .error e, hq => exact hx _ H s e s' I hq
    | .ok (.ret u), hq => exact I.after hq
    | .ok .next, hq => exact hq.elim
    | .ok .brk, hq => exact hq.elim
    | .ok .cont, hq => exact hq.elim
  exact thn z fun _ _ y => ClX.unpinE y
theorem pe_cmS (he : PE X o ta) (r : ClX.CRead X.K C mc) (c : ClX.CMet X.K C mc m p g) (F : FnR X.prog X.w X.K X.mg X.base Z k g sp) (hr : Room k X.A) (hx : ∀ σ, PassesAt Z X σ (E σ)) (ha : PA X (e :: es) t)
    (hst : starEach (e :: es) X.env = (false, eval e X.env) :: starEach es X.env := by rfl) (hpl : (backTo pos (starEach es X.env)).any (·.1) = false := by rfl)
    (ht : eval (.Call (.Attribute o m apos) (e :: es) [] pos) X.env = (do
      let ov ← eval o X.env
      standAt apos.atName
      let (f, first) ← holding [ov] (getMethod ov m pl)
      callWith pos f first (backTo pos (starEach (e :: es) X.env)) (backToKw pos (keywordEach [] X.env))) := by rfl) :
    PE X (.Call (.Attribute o m apos) (e :: es) [] pos) (tCMS C sp E ta t) := by
  refine ⟨fun pins s σ H Q I h => ?_⟩
  refine PySem.W.methodCall_KW (pl := pl) (thn (he.run pins s σ H _ I h) fun u s1 ⟨x, H1, I1, rx, ex, q⟩ => ?_) ht
  subst ex
  obtain rfl : u = Value.ref C := rx
  refine ClX.getmethcm_ok I1 r c fun s2 I2 => ?_
  refine ClX.callwith_cm I2 (ClX.base_none I1 (Nat.le_refl _)) c.fi (thn (ha.run pos _ s2 σ H1 _ I2 q) fun us s3 ⟨vs, H2, I3, rv, q2⟩ => ⟨⟨ClX.pin_at I3, I3.kIn⟩, ?_⟩) hst hpl
  exact run_cmS F hr (hx σ) I3 rv q2
/-- C.m(k = v, ..) -/
def tCMK (C : Addr) (n mm : Nat) (sp : Sp) (gV : List V → List V → List V) (E : L2.St → XK) (ta : TE) (tk : TA) : TE := fun σ H Q => ta σ H fun x H1 => x = .ref C ∧ tk σ H1 fun zs H2 => [V.ref C].length = n ∧ zs.length = mm ∧ sp (gV [V.ref C] zs) H2 Q (E σ)
theorem k_cmk {mm : Nat} {σ : L2.St} {H : Hp} {Q : VK} (h : ta σ H fun x H1 => x = .ref C ∧ tk σ H1 fun zs H2 => [V.ref C].length = n ∧ zs.length = mm ∧ sp (gV [V.ref C] zs) H2 Q (E σ)) : tCMK C n mm sp gV E ta tk σ H Q := h
theorem pe_cmK0 (he : PE X o ta) (r : ClX.CRead X.K C mc) (c : ClX.CMet X.K C mc m p g) (F : FnOk X.prog X.w X.K X.mg X.base Z k g fd ps sp) (hr : Room k X.A) (kb : KBn X.K fd ps n ks gg gV) (hx : ∀ σ, PassesAt Z X σ (E σ))
    (pk : PK X kws tk) (all : (backToKw pos (keywordEach kws X.env)).all (·.1.isSome) = true := by rfl) (nm : (backToKw pos (keywordEach kws X.env)).filterMap (·.1) = ks := by rfl)
    (pn : ((backTo pos (starEach [] X.env)).any (·.1) || (backToKw pos (keywordEach kws X.env)).any (·.1.isNone)) = false := by rfl)
    (ht : eval (.Call (.Attribute o m apos) [] kws pos) X.env = (do
      let ov ← eval o X.env
      standAt apos.atName
      let (f, first) ← holding [ov] (getMethod ov m pl)
      callWith pos f first (backTo pos (starEach [] X.env)) (backToKw pos (keywordEach kws X.env))) := by rfl) :
    PE X (.Call (.Attribute o m apos) [] kws pos) (tCMK C n ks.length sp gV E ta tk) := by
  refine ⟨fun pins s σ H Q I h => ?_⟩
  refine PySem.W.methodCall_KW (pl := pl) (thn (he.run pins s σ H _ I h) fun u s1 ⟨x, H1, I1, rx, ex, q⟩ => ?_) ht
  subst ex
  obtain rfl : u = Value.ref C := rx
  refine ClX.getmethcm_ok I1 r c fun s2 I2 => ?_
  refine PySem.W.callWith_of (P := PySem.W.MethP X.K s1.heap.objs.size g (.ref C)) pn (PySem.W.keeps_M c.fi) (PyProof.Rows.evalArgs_kw2_nil all (thn (pk.run pos _ s2 σ H1 _ I2 q) fun ws s3 ⟨zs, H2, I3, rz, l1, l2, q2⟩ => ⟨⟨ClX.pin_at I3, I3.kIn⟩, ?_⟩))
  rw [nm]
  have z : wpAny (model X.prog X.w) X.A (call (.ref s1.heap.objs.size) [] (ks.zip ws)) (EP X ((s1.heap.objs.size, PySem.W.methodObj (.ref g) (.ref C)) :: pins) σ Q) X.xe s3 := by
    have rv : Vals [V.ref C] [Value.ref C] := .cons rfl .nil
    have rr := kb.rel rv rz
    refine wpAny_call (PySem.W.method_call (ClX.pin_at I3) (codeAny_mono (F.run X.A X.stack s3 H2 ⟨[.ref C], ks.zip ws⟩ (gg [.ref C] ws) (gV [.ref C] zs) Q (E σ) hr I3.env0 (kb.to s3 [.ref C] ws I3.kIn (rv.length.symm.trans l1) (rz.length.symm.trans l2)) rr q2) fun r s' hq => ?_))
    match r, hq with
    | .error e, hq => exact hx σ _ H2 s3 e s' I3 hq
    | .ok (.ret u), hq => exact I3.after hq
    | .ok .next, hq => exact hq.elim
    | .ok .brk, hq => exact hq.elim
    | .ok .cont, hq => exact hq.elim
  exact thn z fun _ _ y => ClX.unpinE y
end
end Own

set_option Elab.async false
set_option maxRecDepth 100000
set_option linter.unusedVariables false
/-! sorted(t), t a tuple of data; lists and tuples of texts -/
namespace Own
open PySem PySem.Spec PyProof.Rows L2
section
variable {X : Cx}
open PySem.W PySem.Calls in
theorem sorted_seq {prog : Program} {w : World} {A : Around} {E : Value → Shared → Prop} {s : Shared} {β : Type} {vs : List Value} {bs : List β} {enc : β → PyData} {R : Value → β → Prop} {l : Addr} {T : String} {o : Obj} {n : Nat} {Q : Value → Shared → Prop} (hT : T = "list" ∨ T = "tuple")
    (ho : s.heap.get? l = some o) (hc : o.cls = .type T) (hd : o.data = .seq vs.toArray n) (e : EachIs R vs bs) (er : EachIs (fun v b => ∃ as, Reads s.heap v (enc b) as) vs bs) (hal : AllAlike (bs.map enc)) (hk : Sortable (bs.map enc)) (hL : bs.length ≤ sizeLine)
    (hu : ∀ b, b ∈ bs → A.units + 2 + (enc b).depth < cLine)
    (h : ∀ (h1 h2 : Heap) (out : List Value) (m : Nat), (∀ b ob, s.heap.get? b = some ob → h1.get? b = some ob) → (∀ b ob, h1.get? b = some ob → h2.get? b = some ob) → h2.get? h1.objs.size = some (seqObj "list" out.toArray m) → out.length = bs.length → EachIs R out (bs.mergeSort (dataLe false enc)) → Q (.ref h1.objs.size) { s with heap := h2 }) :
    wpAny (model prog w) A (call (.builtin "sorted") [.ref l]) Q E s := by
  have hvs : vs.length ≤ sizeLine := by rw [e.length]; exact hL
  refine call_function_entry_kw kind_sorted plain_sorted entry_sorted (args_sorted1 _) ?_
  unfold Builtin.«sorted»
  refine wpAny_bind (m := checkCount "sorted" 1 1 _) (wpAny_pure ?_)
  refine wpAny_bind (wpAny_collect_seq l hT ho hc hd (fun h1 hk1 => ?_) (by rw [List.size_toArray]; exact hvs))
  refine wpAny_bind (wpAny_newList ?_ (by simpa using hvs))
  have at_ : (h1.push (seqObj "list" vs.toArray 0)).get? h1.objs.size = some (seqObj "list" vs.toArray 0) := Heap.get?_push_size _ rfl
  have old : ∀ b ob, h1.get? b = some ob → (h1.push (seqObj "list" vs.toArray 0)).get? b = some ob := fun b ob q => Heap.get?_push_of_some _ q
  have er' : EachIs (fun v b => ∃ as, Reads (sortingHeap (h1.push (seqObj "list" vs.toArray 0)) h1.objs.size vs) v (enc b) as) vs bs := er.mono fun _ _ ⟨as, r⟩ => ⟨as, PyProof.Rows.Reads.keeps (fun b ob q =>
    sortingHeap_old (Nat.ne_of_lt (Heap.lt_size (hk1 b ob q))) (old b ob (hk1 b ob q))) r⟩
  refine wpAny_bind (wpAny_holding (wpAny_call_entry_kw slot_list_sort ⟨_, at_, rfl⟩ entry_list_sort ?body (args_list_sort _)))
  case body =>
    show wpAny (model prog w) A.in1.in1 (Builtin.«list.sort» ⟨[.ref h1.objs.size], []⟩) _ _ { s with heap := h1.push (seqObj "list" vs.toArray 0) }
    refine wpAny_mono (Q := fun f s' => f = .done (.ret .none) ∧ s' = { s with heap := sortedHeap (h1.push (seqObj "list" vs.toArray 0)) h1.objs.size vs (sortVals (dataKind (sortingHeap (h1.push (seqObj "list" vs.toArray 0)) h1.objs.size vs) (bs.map enc)) false vs vs).toArray }) (list_sort_vals (s := { s with heap := h1.push (seqObj "list" vs.toArray 0) }) at_ (SortsAt.data (s := { s with heap := sortingHeap (h1.push (seqObj "list" vs.toArray 0)) h1.objs.size vs }) (each_map (R := fun v d => ∃ as, Reads (sortingHeap (h1.push (seqObj "list" vs.toArray 0)) h1.objs.size vs) v d as) enc er') hal hk (bound_map hu)) hvs ⟨rfl, rfl⟩) (fun f s' hf => ?_) fun _ _ z => z
    obtain ⟨rfl, rfl⟩ := hf
    refine ⟨_, rfl, wpAny_pure ⟨_, rfl, ?_⟩⟩
    obtain ⟨m, hm⟩ := sortedHeap_at (out := (sortVals (dataKind (sortingHeap (h1.push (seqObj "list" vs.toArray 0)) h1.objs.size vs) (bs.map enc)) false vs vs).toArray) at_
    exact h h1 _ _ m hk1 (fun b ob q => (sortedHeap_old (Nat.ne_of_lt (Heap.lt_size q)) (by rw [size_push']; exact Nat.lt_succ_of_lt (Heap.lt_size q))).trans (old b ob q)) hm (by rw [sortVals_length false rfl]; exact e.length) (sortVals_data false e er' hal)
/-- sorted(x), x a list or a tuple of data -/
def rSortedA (K : PySem.W.Frag) : List V → Hp → VK → Prop := fun xs H Q => ∃ (a : Addr) (bs : List (V × PyData)), xs = [.ref a] ∧ (SqL K H a (bs.map (·.1)) ∨ SqT K H a (bs.map (·.1))) ∧ (∀ b ∈ bs, Dp K H b.1 b.2 ∧ b.2.depth ≤ 50) ∧ PySem.W.AllAlike (bs.map (·.2)) ∧ PySem.W.Sortable (bs.map (·.2)) ∧ bs.length ≤ 1000 ∧
  ∀ p, H p = none → Q (.ref p) (upd H p (.lst ((bs.mergeSort (PySem.W.dataLe false fun b : V × PyData => b.2)).map (·.1))))
theorem call_sortedA (hu : X.A.units + 64 < cLine) : CallR X (.builtin "sorted") (rSortedA X.K) := by
  intro pins s σ H xs us Q I r h
  obtain ⟨a, bs, rfl, hs, hd, ha, hk, hz, q⟩ := h
  obtain ⟨u, rfl, ru⟩ := r.one
  obtain rfl : u = Value.ref a := ru
  have hz2 : bs.length ≤ sizeLine := Nat.le_trans hz (by decide)
  have main : ∀ (its : List Value) (T : String) (o : Obj) (n : Nat), (T = "list" ∨ T = "tuple") → s.heap.get? a = some o → o.cls = .type T → o.data = .seq its.toArray n → Vals (bs.map (·.1)) its →
      wpAny (model X.prog X.w) X.A (call (.builtin "sorted") [.ref a]) (EP X pins σ Q) X.xe s := fun its T o n hT ho hc hdt rv => by
    obtain ⟨e1, e2⟩ := eachV I rv fun b hb => (hd b hb).1
    refine sorted_seq (enc := fun b : V × PyData => b.2) hT ho hc hdt e1 e2 ha hk hz2 (fun b hb => ?_) fun h1 h2 out m k1 k2 ho2 lo eo => ?_
    · have := (hd b hb).2
      omega
    · have I1 := I.kept (t' := s.toks) k1
      have fresh : H h1.objs.size = none := I1.hok.fresh (Nat.le_refl _)
      refine ⟨.ref _, _, I1.laid (o := .lst ((bs.mergeSort (PySem.W.dataLe false fun b : V × PyData => b.2)).map (·.1))) (t' := s.toks) k2 (Nat.le_refl _) ⟨?_, out, m, eachVals eo, ho2⟩, rfl, q _ fresh⟩
      rw [List.length_map, List.length_mergeSort]
      exact hz2
  rcases hs with hs | hs
  · obtain ⟨its, rv, hl, _⟩ := I.list hs
    obtain ⟨o, ho, hc, n, hdt⟩ := hl.isList
    exact main its "list" o n (.inl rfl) ho hc hdt rv
  · obtain ⟨its, rv, ht, _⟩ := I.tuple hs
    obtain ⟨o, ho, hc, n, hdt⟩ := ht
    exact main its "tuple" o n (.inr rfl) ho hc hdt rv
end
theorem range_filter {α β : Type} (xs : List α) (p : Nat → Bool) (f : Nat → β) (q : α → Bool) (h : α → β) (e : ∀ k x, xs[k]? = some x → p k = q x ∧ f k = h x) : ((List.range xs.length).filter p).map f = (xs.filter q).map h := by
  have g : ∀ n, n ≤ xs.length → ((List.range n).filter p).map f = ((xs.take n).filter q).map h := by
    intro n
    induction n with
    | zero => intro _; simp
    | succ n ih =>
      intro hn
      have hx : xs[n]? = some xs[n] := List.getElem?_eq_getElem (by omega)
      obtain ⟨e1, e2⟩ := e n _ hx
      rw [List.range_succ, List.filter_append, List.map_append, ih (by omega), List.take_add_one, hx, List.filter_append, List.map_append]
      congr 1
      show ([n].filter p).map f = ([xs[n]].filter q).map h
      cases hp : p n with
      | true => rw [List.filter_cons_of_pos hp, List.filter_cons_of_pos (e1 ▸ hp), List.filter_nil, List.filter_nil, List.map_singleton, List.map_singleton, e2]
      | false => rw [List.filter_cons_of_neg (by rw [hp]; decide), List.filter_cons_of_neg (by rw [← e1, hp]; decide), List.filter_nil, List.filter_nil]; rfl
  have := g xs.length (Nat.le_refl _)
  rw [List.take_length] at this
  exact this
section
variable {K : PySem.W.Frag} {σ : L2.St} {H : Hp} {Q : VK} {tl ta : TA}
theorem k_enumL {R : It → Hp → Prop} (h : ta σ H fun vs H1 => ∃ a xs, vs = [.ref a] ∧ SqL K H1 a xs ∧ R (Ite K a) H1) : iEnum K ta σ H R := h
/-! new objects, told without their heaps -/
theorem upd_tells {H2 : Hp} {p : Addr} {o : HO} (e : upd H p o = H2) (hp : H p = none) : Same H H2 ∧ H2 p = some o := by
  subst e
  exact ⟨Same.upd hp, upd_same⟩
theorem new_tup {xs : List V} (h : ∀ p H2, Same H H2 → H2 p = some (.tup xs) → H p = none → Q (.ref p) H2) : ∀ p, H p = none → Q (.ref p) (upd H p (.tup xs)) := fun p hp => h p _ (Same.upd hp) upd_same hp
theorem new_lst {xs : List V} (h : ∀ p H2, Same H H2 → H2 p = some (.lst xs) → H p = none → Q (.ref p) H2) : ∀ p, H p = none → Q (.ref p) (upd H p (.lst xs)) := fun p hp => h p _ (Same.upd hp) upd_same hp
theorem catT_of {a b : Addr} {xs ys : List V} (ha : H a = some (.tup xs)) (hb : H b = some (.tup ys)) (n1 : xs ≠ []) (n2 : ys ≠ []) (l : xs.length + ys.length ≤ 100000) (h : ∀ p H2, Same H H2 → H2 p = some (.tup (xs ++ ys)) → H p = none → Q (.ref p) H2) : rCatT K (.ref a) (.ref b) H Q :=
  ⟨a, b, xs, ys, rfl, rfl, SqT.of ha, SqT.of hb, n1, Nat.le_trans l (by decide), fun z => absurd z n2, fun _ => new_tup h⟩
theorem catL_of {a b : Addr} {xs ys : List V} (ha : H a = some (.lst xs)) (hb : H b = some (.lst ys)) (l : xs.length + ys.length ≤ 100000) (h : ∀ p H2, Same H H2 → H2 p = some (.lst (xs ++ ys)) → H p = none → Q (.ref p) H2) : rCat (.ref a) (.ref b) H Q :=
  ⟨a, b, xs, ys, rfl, rfl, ha, hb, Nat.le_trans l (by decide), new_lst h⟩
end
end Own

set_option Elab.async false
set_option maxRecDepth 100000
set_option linter.unusedVariables false
/-! what repr tells: how large -/
namespace Own
open PySem PySem.Spec PyProof.Rows L2
theorem ix_tupK {X : Cx} {K : PySem.W.Frag} (h : X.K = K) : IxR X (rIxT K) := by
  subst h
  exact ix_tup
structure Fit (W D : Nat) (d : PyData) : Prop where
  sh : d.showable = true
  la : d.canLay0 = true
  is : d.intsShort 13 = true
  de : d.depth ≤ D
  we : d.weight ≤ W
structure FitA (W D : Nat) (ds : List PyData) : Prop where
  sh : PyData.showableAll ds = true
  la : PyData.canLayAll0 ds = true
  is : PyData.intsShortAll 13 ds = true
  de : PyData.depthAll ds ≤ D
  we : PyData.weightAll ds ≤ W
theorem fit_nil {D : Nat} : FitA 0 D [] := ⟨rfl, rfl, rfl, Nat.zero_le _, Nat.le_refl _⟩
theorem fit_cons {W W' D : Nat} {d : PyData} {ds : List PyData} (a : Fit W D d) (b : FitA W' D ds) : FitA (W + 1 + W') D (d :: ds) := by
  refine ⟨?_, ?_, ?_, ?_, ?_⟩
  · show (_ && _) = true
    rw [a.sh, b.sh]
    rfl
  · show (_ && _) = true
    rw [a.la, b.la]
    rfl
  · show (_ && _) = true
    rw [a.is, b.is]
    rfl
  · show max _ _ ≤ D
    exact Nat.max_le.mpr ⟨a.de, b.de⟩
  · show _ + 1 + _ ≤ _
    have := a.we
    have := b.we
    omega
theorem fit_tup {W D : Nat} {ds : List PyData} (a : FitA W D ds) : Fit W (D + 1) (.tuple ds) := ⟨a.sh, a.la, a.is, Nat.succ_le_succ a.de, a.we⟩
theorem fit_lst {W D : Nat} {ds : List PyData} (a : FitA W D ds) : Fit W (D + 1) (.list ds) := ⟨a.sh, a.la, a.is, Nat.succ_le_succ a.de, a.we⟩
theorem Fit.mono {W W' D D' : Nat} {d : PyData} (a : Fit W D d) (h : W ≤ W') (h2 : D ≤ D') : Fit W' D' d := ⟨a.sh, a.la, a.is, Nat.le_trans a.de h2, Nat.le_trans a.we h⟩
theorem FitA.mono {W W' D D' : Nat} {d : List PyData} (a : FitA W D d) (h : W ≤ W') (h2 : D ≤ D') : FitA W' D' d := ⟨a.sh, a.la, a.is, Nat.le_trans a.de h2, Nat.le_trans a.we h⟩
def RepD (d : PyData) : Prop := d.showable = true ∧ d.depth ≤ 60 ∧ d.shown.length ≤ sizeLine
theorem Fit.repr {W D : Nat} {d : PyData} (f : Fit W D d) (h : W ≤ 1000000) (h2 : D ≤ 60) : RepD d := by
  refine ⟨f.sh, Nat.le_trans f.de h2, ?_⟩
  have hl : d.layable0 = true := by
    show (_ && decide _ && decide _) = true
    have e : (2 : Nat) ^ 20 = 1048576 := by decide
    have := f.de
    have := f.we
    rw [f.la, decide_eq_true (show d.depth ≤ 64 by omega), decide_eq_true (show d.weight ≤ 2 ^ 20 by rw [e]; omega)]
    rfl
  have := PyProof.Rows.shown_le13 hl f.is
  rw [sizeLine_eq]
  omega
theorem fit_str {z : Str} (h : PyData.strOk z = true) (l : z.length ≤ 100) : Fit 1000 0 (.str z) := by
  refine ⟨rfl, h, rfl, Nat.le_refl _, ?_⟩
  show z.cps.size ≤ 1000
  have : z.cps.size = z.length := rfl
  omega
theorem fit_strs : ∀ {zs : List Str}, (∀ z ∈ zs, PyData.strOk z = true ∧ z.length ≤ 100) → FitA (1001 * zs.length) 0 (zs.map .str)
  | [], _ => fit_nil
  | z :: zs, h => (fit_cons (fit_str (h z List.mem_cons_self).1 (h z List.mem_cons_self).2) (fit_strs fun y k => h y (List.mem_cons_of_mem _ k))).mono (by simp only [List.length_cons]; omega) (Nat.le_refl _)
end Own

set_option Elab.async false
set_option maxRecDepth 100000
set_option linter.unusedVariables false
/-! dicts beside texts, tuples, lists: == -/
namespace Own
open PySem PySem.Spec PyProof.Rows L2
open AutoSeq1 (wpAny_loadPart')
open SeqAt
section
variable {a b : Addr} {es : Array DictEntry} {ep n : Nat} {items : Array Value} {d1 d2 : Option Addr} {s1 s2 : Array (Option Value)} {z : Str} {u : Tok}
theorem dict_no_tup : Meets (Builtin.«dict.__eq__» ⟨[.ref a, .ref b], []⟩) (fun _ R s => s.heap.get? a = some { cls := .type "dict", dict := d1, data := .dict es ep, slots := s1 } ∧
    s.heap.get? b = some { cls := .type "tuple", dict := d2, data := .seq items n, slots := s2 } ∧ R (.ok (.ret .notImplemented)) s) :=
  .of_wp fun prog w A R s h => by
    obtain ⟨hp, g, dr, tk, os⟩ := s
    obtain ⟨ha, hb, h⟩ := h
    have f1 := F.sub_tuple_dict
    wp_walk using wpAny_loadPart' ha, wpAny_loadPart' hb
    exact ⟨_, rfl, h⟩
theorem tup_no_dict : Meets (Builtin.«tuple.__eq__» ⟨[.ref b, .ref a], []⟩) (fun _ R s => s.heap.get? a = some { cls := .type "dict", dict := d1, data := .dict es ep, slots := s1 } ∧
    s.heap.get? b = some { cls := .type "tuple", dict := d2, data := .seq items n, slots := s2 } ∧ R (.ok (.ret .notImplemented)) s) :=
  .of_wp fun prog w A R s h => by
    obtain ⟨hp, g, dr, tk, os⟩ := s
    obtain ⟨ha, hb, h⟩ := h
    have f1 := F.sub_dict_tuple
    wp_walk using wpAny_loadPart' ha, wpAny_loadPart' hb
    exact ⟨_, rfl, h⟩
theorem dict_no_str : Meets (Builtin.«dict.__eq__» ⟨[.ref a, .str z u], []⟩) (fun _ R s => s.heap.get? a = some { cls := .type "dict", dict := d1, data := .dict es ep, slots := s1 } ∧ R (.ok (.ret .notImplemented)) s) :=
  .of_wp fun prog w A R s h => by
    obtain ⟨hp, g, dr, tk, os⟩ := s
    obtain ⟨ha, h⟩ := h
    have f1 := F.sub_str_dict
    wp_walk using wpAny_loadPart' ha
    exact ⟨_, rfl, h⟩
theorem str_no_dict : Meets (Builtin.«str.__eq__» ⟨[.str z u, .ref a], []⟩) (fun _ R s => s.heap.get? a = some { cls := .type "dict", dict := d1, data := .dict es ep, slots := s1 } ∧ R (.ok (.ret .notImplemented)) s) :=
  .of_wp fun prog w A R s h => by
    obtain ⟨hp, g, dr, tk, os⟩ := s
    obtain ⟨ha, h⟩ := h
    have f1 := F.sub_dict_str
    wp_walk using wpAny_loadPart' ha, wpAny_load ha
    exact ⟨_, rfl, h⟩
end
end Own

set_option Elab.async false
set_option maxRecDepth 100000
set_option maxHeartbeats 4000000
set_option linter.unusedVariables false
/-! data with two small dicts in it: repr, ==, in -/
namespace Own
open PySem PySem.Spec PyProof.Rows L2
open SeqAt
def keyA : Key := Sum.inr (Str.ofString "a")
mutual
inductive Dq (H : Hp) : V → PyData → Prop
  | non : Dq H .non .none
  | bl (b : Bool) : Dq H (.bl b) (.bool b)
  | int (i : Int) : Dq H (.int i) (.int i)
  | str (x : Str) : Dq H (.str x) (.str x)
  | lst {a : Addr} {xs : List V} {ds : List PyData} : H a = some (.lst xs) → DqAll H xs ds → Dq H (.ref a) (.list ds)
  | tup {a : Addr} {xs : List V} {ds : List PyData} : H a = some (.tup xs) → DqAll H xs ds → Dq H (.ref a) (.tuple ds)
  | d0 {p : Addr} : H p = some (.dK []) → Dq H (.ref p) (.dict [])
  | d1 {p : Addr} : H p = some (.dK [(keyA, .int 1)]) → Dq H (.ref p) (.dict [(.str (Str.ofString "a"), .int 1)])
inductive DqAll (H : Hp) : List V → List PyData → Prop
  | nil : DqAll H [] []
  | cons {v : V} {vs : List V} {d : PyData} {ds : List PyData} : Dq H v d → DqAll H vs ds → DqAll H (v :: vs) (d :: ds)
end
mutual
theorem Dq.same {H H' : Hp} (s : Same H H') : ∀ {d : PyData} {v : V}, Dq H v d → Dq H' v d
  | .none, _, .non => .non
  | .bool _, _, .bl b => .bl b
  | .int _, _, .int i => .int i
  | .str _, _, .str x => .str x
  | .list _, _, .lst h a => .lst (s _ _ h) (DqAll.same s a)
  | .tuple _, _, .tup h a => .tup (s _ _ h) (DqAll.same s a)
  | .dict [], _, .d0 h => .d0 (s _ _ h)
  | .dict [_], _, .d1 h => .d1 (s _ _ h)
theorem DqAll.same {H H' : Hp} (s : Same H H') : ∀ {ds : List PyData} {vs : List V}, DqAll H vs ds → DqAll H' vs ds
  | [], _, .nil => .nil
  | _ :: _, _, .cons a b => .cons (Dq.same s a) (DqAll.same s b)
end
theorem DqAll.len {H : Hp} : ∀ {ds : List PyData} {vs : List V}, DqAll H vs ds → vs.length = ds.length
  | [], _, .nil => rfl
  | _ :: _, _, .cons _ b => congrArg (· + 1) b.len
theorem DqAll.get {H : Hp} : ∀ {ds : List PyData} {vs : List V} {i : Nat} {v : V}, DqAll H vs ds → vs[i]? = some v → ∃ d, ds[i]? = some d ∧ Dq H v d
  | _ :: _, _ :: _, 0, v, .cons a _, e => by
    obtain rfl : _ = v := Option.some.inj e
    exact ⟨_, rfl, a⟩
  | _ :: _, _ :: _, i + 1, v, .cons _ b, e => b.get (i := i) (v := v) e
  | [], [], i, v, .nil, e => by simp at e
theorem DqAll.app {H : Hp} : ∀ {ds es : List PyData} {vs ws : List V}, DqAll H vs ds → DqAll H ws es → DqAll H (vs ++ ws) (ds ++ es)
  | [], _, _, _, .nil, h => h
  | _ :: _, _, _, _, .cons a b, h => .cons a (b.app h)
theorem DqAll.take {H : Hp} : ∀ {ds : List PyData} {vs : List V} (n : Nat), DqAll H vs ds → DqAll H (vs.take n) (ds.take n)
  | _, _, 0, _ => .nil
  | [], _, _ + 1, .nil => .nil
  | _ :: _, _, n + 1, .cons a b => .cons a (b.take n)
theorem DqAll.drop {H : Hp} : ∀ {ds : List PyData} {vs : List V} (n : Nat), DqAll H vs ds → DqAll H (vs.drop n) (ds.drop n)
  | _, _, 0, h => h
  | [], _, _ + 1, .nil => .nil
  | _ :: _, _, n + 1, .cons _ b => b.drop n
theorem DqAll.rev {H : Hp} : ∀ {ds : List PyData} {vs : List V}, DqAll H vs ds → DqAll H vs.reverse ds.reverse
  | [], _, .nil => .nil
  | _ :: _, _, .cons a b => by
    rw [List.reverse_cons, List.reverse_cons]
    exact b.rev.app (.cons a .nil)
theorem DqAll.mem {H : Hp} : ∀ {ds : List PyData} {vs : List V} {d : PyData}, DqAll H vs ds → d ∈ ds → ∃ v, v ∈ vs ∧ Dq H v d
  | _ :: _, _, d, .cons a b, e => by
    rcases List.mem_cons.mp e with rfl | e
    · exact ⟨_, List.mem_cons_self, a⟩
    · obtain ⟨v, h1, h2⟩ := b.mem e
      exact ⟨v, List.mem_cons_of_mem _ h1, h2⟩
/-- address 1 holds a dict -/
def One (K : PySem.W.Frag) : Prop := ∃ o, K.lookup 1 = some o ∧ o.cls = .type "dict"
section
variable {X : Cx} {pins : List (Addr × Obj)} {σ : L2.St} {H : Hp} {s : Shared}
theorem one_ne (I : Inv X pins σ H s) (h : One X.K) {a : Addr} {o : Obj} (ho : s.heap.get? a = some o) (hc : o.cls = .type "list") : sysModules ≠ a := fun e => by
  obtain ⟨o1, k, c⟩ := h
  have := I.kIn _ _ k
  subst e
  have e2 : s.heap.get? 1 = some o := ho
  rw [this] at e2
  obtain rfl := Option.some.inj e2
  rw [hc] at c
  exact absurd c (by decide)
theorem dict0_reads (I : Inv X pins σ H s) {p : Addr} (hp : H p = some (.dK [])) : ∃ as, Reads s.heap (.ref p) (.dict []) as ∧ sysModules ∉ as := by
  obtain ⟨_, low, vs, kv, od, es, ep, g1, ⟨g2, _⟩, g3, _, pr, _⟩ := I.hok p _ hp
  cases kv
  have e : es.toList = [] := by
    match es.toList, pr with
    | [], _ => rfl
  refine ⟨_, .dict (kvs := []) g1 g2 g3 (by rw [e]; exact .nil) (by rw [e]; exact .nil), fun z => ?_⟩
  simp at z
  rw [← z] at low
  exact absurd low (by decide)
theorem dict1_reads (I : Inv X pins σ H s) {p : Addr} (hp : H p = some (.dK [(keyA, .int 1)])) : ∃ as, Reads s.heap (.ref p) (.dict [(.str (Str.ofString "a"), .int 1)]) as ∧ sysModules ∉ as := by
  obtain ⟨_, low, vs, kv, od, es, ep, g1, ⟨g2, _⟩, g3, _, pr, _⟩ := I.hok p _ hp
  match vs, kv with
  | [w], .cons ⟨b1, b2⟩ .nil =>
    obtain ⟨wk, wv⟩ := w
    obtain rfl : keyA = wk := b1
    obtain ⟨t2, rfl⟩ := b2
    obtain ⟨e, he, e1, e2⟩ : ∃ e, es.toList = [e] ∧ (mixKind X.prog X.w).is keyA e.key = true ∧ e.val = .int 1 t2 := by
      match es.toList, pr with
      | [e], .cons c1 c2 .nil => exact ⟨e, rfl, c1, c2⟩
    obtain ⟨t3, e3⟩ : ∃ t3, e.key = Value.str (Str.ofString "a") t3 := by
      revert e1
      generalize e.key = kk
      intro e1
      have e1 : keyIs (Sum.inr (Str.ofString "a")) kk = true := e1
      cases kk with
      | str x t =>
        refine ⟨t, ?_⟩
        have : x = Str.ofString "a" := by
          have e2 : decide (x = Str.ofString "a") = true ∨ decide (Str.ofString "a" = x) = true := by
            first | exact .inl e1 | exact .inr e1
          rcases e2 with e2 | e2
          · exact of_decide_eq_true e2
          · exact (of_decide_eq_true e2).symm
        rw [this]
      | _ => exact absurd e1 (by simp [keyIs, Value.isStrOf])
    refine ⟨_, .dict g1 g2 g3 (by rw [he, List.map_singleton, e3]; exact .cons (.str _ _) .nil) (by rw [he, List.map_singleton, e2]; exact .cons (.int _ _) .nil), fun z => ?_⟩
    simp at z
    rw [← z] at low
    exact absurd low (by decide)
mutual
theorem Dq.reads (I : Inv X pins σ H s) (h1 : One X.K) : ∀ (d : PyData) (v : V) (u : Value), Dq H v d → RelV v u → ∃ as, Reads s.heap u d as ∧ sysModules ∉ as
  | .none, _, _, h, r => by
    cases h
    cases r
    exact ⟨_, Reads.none, List.not_mem_nil⟩
  | .bool b, _, _, h, r => by
    cases h
    cases r
    exact ⟨_, Reads.bool b, List.not_mem_nil⟩
  | .int i, _, _, h, r => by
    cases h
    obtain ⟨t, rfl⟩ := r
    exact ⟨_, Reads.int i t, List.not_mem_nil⟩
  | .str x, _, _, h, r => by
    cases h
    obtain ⟨t, rfl⟩ := r
    exact ⟨_, Reads.str x t, List.not_mem_nil⟩
  | .list ds, _, _, h, r => by
    cases h with
    | lst hs ha =>
      cases r
      obtain ⟨its, rv, ⟨o, n, ho, hc, _, hd⟩, _⟩ := I.list (SqL.of hs)
      obtain ⟨as, hr, hn⟩ := Dq.readsAll I h1 ds _ its ha rv
      refine ⟨_, Reads.list ho hc hd hr, fun z => ?_⟩
      rcases List.mem_cons.mp z with z | z
      · exact one_ne I h1 ho hc z
      · exact hn z
  | .tuple ds, _, _, h, r => by
    cases h with
    | tup hs ha =>
      cases r
      obtain ⟨its, rv, ⟨o, ho, hc, n, hd⟩, _⟩ := I.tuple (SqT.of hs)
      obtain ⟨as, hr, hn⟩ := Dq.readsAll I h1 ds _ its ha rv
      exact ⟨_, Reads.tuple ho hc hd hr, hn⟩
  | .dict _, _, _, h, r => by
    cases h with
    | d0 hp =>
      cases r
      exact dict0_reads I hp
    | d1 hp =>
      cases r
      exact dict1_reads I hp
theorem Dq.readsAll (I : Inv X pins σ H s) (h1 : One X.K) : ∀ (ds : List PyData) (vs : List V) (us : List Value), DqAll H vs ds → Vals vs us → ∃ as, ReadsAll s.heap us ds as ∧ sysModules ∉ as
  | [], _, _, h, r => by
    cases h
    cases r
    exact ⟨_, ReadsAll.nil, List.not_mem_nil⟩
  | d :: ds, _, _, h, r => by
    cases h with
    | cons h2 h3 =>
      cases r with
      | cons r1 r2 =>
        obtain ⟨as, q1, n1⟩ := Dq.reads I h1 d _ _ h2 r1
        obtain ⟨bs, q2, n2⟩ := Dq.readsAll I h1 ds _ _ h3 r2
        exact ⟨_, ReadsAll.cons q1 q2, fun z => (List.mem_append.mp z).elim n1 n2⟩
end
end
/-- repr(x), x data -/
def rReprQ : List V → Hp → VK → Prop := fun xs H Q => ∃ x d, xs = [x] ∧ Dq H x d ∧ RepD d ∧ Q (.str d.shown) H
theorem call_reprQ {X : Cx} (qt : Quiet X.A) (hu : X.A.units + 64 < cLine) (h1 : One X.K) : CallR X (.builtin "repr") rReprQ := by
  intro pins s σ H xs us Q I rv h
  obtain ⟨x, d, rfl, hd, ⟨hs, hz, hl⟩, q⟩ := h
  obtain ⟨u, rfl, rx⟩ : ∃ u, us = [u] ∧ RelV x u := by
    cases rv with
    | cons a b =>
      cases b
      exact ⟨_, rfl, a⟩
  obtain ⟨as, rd, na⟩ := Dq.reads I h1 d x u hd rx
  cases hd with
  | non =>
    cases rx
    exact P.repr_of_none ⟨.str "None", H, I.tok _, ⟨_, rfl⟩, q⟩
  | bl b =>
    cases rx
    exact P.repr_of_bool ⟨.str (if b then "True" else "False"), H, I.tok _, ⟨_, rfl⟩, q⟩
  | int i =>
    obtain ⟨t, rfl⟩ := rx
    refine P.repr_of_int ?_ ⟨.str (toString i), H, I.tok _, ⟨_, rfl⟩, q⟩
    simpa [PyData.showable] using hs
  | str y =>
    obtain ⟨t, rfl⟩ := rx
    exact P.repr_of_str ⟨.str (reprText y), H, I.tok _, ⟨_, rfl⟩, q⟩ hl
  | lst _ _ =>
    cases rx
    exact repr_of_reads' rd hs (fun _ => na) qt (by omega) (fun _ _ z => z) (fun h' w tk k => ⟨.str _, H, I.kept k, ⟨_, rfl⟩, q⟩) hl
  | tup _ _ =>
    cases rx
    exact repr_of_reads' rd hs (fun _ => na) qt (by omega) (fun _ _ z => z) (fun h' w tk k => ⟨.str _, H, I.kept k, ⟨_, rfl⟩, q⟩) hl
  | d0 _ =>
    cases rx
    exact repr_of_reads' rd hs (fun _ => na) qt (by omega) (fun _ _ z => z) (fun h' w tk k => ⟨.str _, H, I.kept k, ⟨_, rfl⟩, q⟩) hl
  | d1 _ =>
    cases rx
    exact repr_of_reads' rd hs (fun _ => na) qt (by omega) (fun _ _ z => z) (fun h' w tk k => ⟨.str _, H, I.kept k, ⟨_, rfl⟩, q⟩) hl
end Own

set_option Elab.async false
set_option maxRecDepth 100000
set_option maxHeartbeats 4000000
set_option linter.unusedVariables false
/-! any data: x == (), x != [], x in a tuple of texts, its type -/
namespace Own
open PySem PySem.Spec PyProof.Rows L2
open SeqAt MeetsSeq
def DictAt (h : Heap) (a : Addr) : Prop := ∃ o es ep, h.get? a = some o ∧ o.cls = .type "dict" ∧ o.data = .dict es ep
section
variable {A : Around} {s : Shared} {a b : Addr} {items : Array Value}
theorem rc_dict_tup (ha : DictAt s.heap a) (hb : s.heap.IsTuple b items) (hu : A.units < cLine) : RcAt A s (.ref a) (.ref b) false := fun prog w E Q h => by
  obtain ⟨⟨c1, d1, t1, s1⟩, es, ep, g1, e1, f1⟩ := ha
  obtain ⟨⟨c2, d2, t2, s2⟩, g2, e2, n, f2⟩ := hb
  simp only at e1 f1 e2 f2
  subst e1 f1 e2 f2
  have ne : a ≠ b := fun e => by
    subst e
    rw [g1] at g2
    have c := congrArg Obj.cls (Option.some.inj g2)
    exact absurd c (by simp)
  exact rc_eq_decline_or (k := false) ⟨_, g1, rfl⟩ ⟨_, g2, rfl⟩ (by decide) F.sub_tuple_dict F.slot_dict_eq F.slot_tuple_eq_refl
    (fun _ q => call_meets F.slot_dict_eq ⟨_, g1, rfl⟩ F.entry_dict_eq (F.args_dict_eq_2 _ _) dict_no_tup ⟨g1, g2, q⟩)
    (fun _ q => call_meets F.slot_tuple_eq_refl ⟨_, g2, rfl⟩ F.entry_tuple_eq (F.args_tuple_eq_2 _ _) tup_no_dict ⟨g1, g2, q⟩)
    (fun _ q => wpAny_isSame_ref_other ne g1 g2 (by simp) q) (.inr hu) h
theorem rc_str_dict (z : Str) (u : Tok) (ha : DictAt s.heap a) (hu : A.units < cLine) : RcAt A s (.str z u) (.ref a) false := fun prog w E Q h => by
  obtain ⟨⟨c1, d1, t1, s1⟩, es, ep, g1, e1, f1⟩ := ha
  simp only at e1 f1
  subst e1 f1
  exact rc_eq_decline_or (k := false) (typeIs_str s z u) ⟨_, g1, rfl⟩ (by decide) F.sub_dict_str F.slot_str_eq F.slot_dict_eq_refl
    (fun _ q => call_meets F.slot_str_eq (typeIs_str s z u) F.entry_str_eq (F.args_str_eq_2 _ _) str_no_dict ⟨g1, q⟩)
    (fun _ q => call_meets F.slot_dict_eq_refl ⟨_, g1, rfl⟩ F.entry_dict_eq (F.args_dict_eq_2 _ _) dict_no_str ⟨g1, q⟩)
    (fun _ q => wpAny_of_eq (rfl : isSame (.str z u) (.ref a) = pure false) q) (.inr hu) h
theorem eq_str_dict (z : Str) (u : Tok) (ha : DictAt s.heap a) (hu : A.units < cLine) : EqAt A s (.str z u) (.ref a) false := fun prog w E Q h => by
  unfold eqBool
  refine wpAny_holding (wpAny_ite_split (fun e => absurd (eq_of_beq e) nofun) fun _ => wpAny_bind (rc_str_dict z u ha hu prog w E _ (wpAny_truthy_bool h)))
end
section
variable {X : Cx} {pins : List (Addr × Obj)} {σ : L2.St} {H : Hp} {s : Shared}
theorem dict_at (I : Inv X pins σ H s) {p : Addr} {kvs : List (Key × V)} (hp : H p = some (.dK kvs)) : DictAt s.heap p := by
  obtain ⟨_, low, vs, kv, od, es, ep, g1, ⟨g2, _⟩, g3, _, pr, _⟩ := I.hok p _ hp
  exact ⟨_, _, _, g1, g2, g3⟩
theorem is_list (I : Inv X pins σ H s) {p : Addr} {xs : List V} (hp : SqL X.K H p xs) : ∃ its : List Value, Vals xs its ∧ s.heap.IsList p its.toArray := by
  obtain ⟨its, rv, ⟨o, n, ho, hc, _, hd⟩, _⟩ := I.list hp
  exact ⟨its, rv, o, ho, hc, n, hd⟩
theorem is_tuple' (I : Inv X pins σ H s) {p : Addr} {xs : List V} (hp : SqT X.K H p xs) : ∃ its : List Value, Vals xs its ∧ s.heap.IsTuple p its.toArray := by
  obtain ⟨its, rv, ⟨o, ho, hc, n, hd⟩, _⟩ := I.tuple hp
  exact ⟨its, rv, o, ho, hc, n, hd⟩
end
def tup0 : PyData → Bool
  | .tuple [] => true
  | _ => false
/-- x == () -/
def rEqT0 (K : PySem.W.Frag) : R2 := fun x y H Q => ∃ d a, Dq H x d ∧ y = .ref a ∧ SqT K H a [] ∧ Q (.bl (tup0 d)) H
theorem op_eqT0 {X : Cx} (hu : X.A.units + 64 < cLine) : OpR X (compareOp .Eq) (rEqT0 X.K) := by
  intro pins s σ H x y v u Q I rx ry h
  obtain ⟨d, a, hd, rfl, ha, q⟩ := h
  obtain rfl : u = Value.ref a := ry
  obtain ⟨its, r0, ht⟩ := is_tuple' I ha
  cases r0
  have hu' : X.A.units < cLine := by omega
  have go : ∀ {b : Bool}, RcAt X.A s v (.ref a) b → Q (.bl b) H → wpAny (model X.prog X.w) X.A (compareOp .Eq v (.ref a)) (EP X pins σ Q) X.xe s := fun r q => r _ _ _ _ ⟨.bl _, H, I, rfl, q⟩
  cases hd with
  | non =>
    cases rx
    exact go (.none_tuple ht hu') q
  | bl b =>
    cases rx
    exact go (.bool_tuple b ht hu') q
  | int i =>
    obtain ⟨t, rfl⟩ := rx
    exact go (.int_tuple i t ht hu') q
  | str z =>
    obtain ⟨t, rfl⟩ := rx
    exact go (.str_tuple z t ht hu') q
  | lst hs ha2 =>
    cases rx
    obtain ⟨js, r1, hl⟩ := is_list I (SqL.of hs)
    exact go (.list_tuple hl ht hu') q
  | @tup c xs ds hs ha2 =>
    cases rx
    obtain ⟨js, r1, hl⟩ := is_tuple' I (SqT.of hs)
    refine go (.tuples (e := fun _ => true) hl ht hu' fun j _ z => absurd z (Nat.not_lt_zero j)) ?_
    have e : ((List.range (min js.toArray.size (#[] : Array Value).size)).all (fun _ => true) && js.toArray.size == (#[] : Array Value).size) = tup0 (.tuple ds) := by
      have l := ha2.len
      have l2 := r1.length
      cases ds with
      | nil =>
        obtain rfl : js = [] := List.eq_nil_of_length_eq_zero (by rw [← l2, l]; rfl)
        rfl
      | cons d ds =>
        cases js with
        | nil =>
          rw [l] at l2
          cases l2
        | cons j js => simp [tup0]
    exact e ▸ q
  | d0 hp =>
    cases rx
    exact go (rc_dict_tup (dict_at I hp) ht hu') q
  | d1 hp =>
    cases rx
    exact go (rc_dict_tup (dict_at I hp) ht hu') q
/-- xs != [], xs == [], xs any list -/
def rNeL0 (K : PySem.W.Frag) : R2 := fun x y H Q => ∃ a b xs, x = .ref a ∧ y = .ref b ∧ SqL K H a xs ∧ SqL K H b [] ∧ Q (.bl (!xs.isEmpty)) H
def rEqL0 (K : PySem.W.Frag) : R2 := fun x y H Q => ∃ a b xs, x = .ref a ∧ y = .ref b ∧ SqL K H a xs ∧ SqL K H b [] ∧ Q (.bl xs.isEmpty) H
theorem op_neL0 {X : Cx} (hu : X.A.units + 64 < cLine) : OpR X (compareOp .NotEq) (rNeL0 X.K) := by
  intro pins s σ H x y v u Q I rx ry h
  obtain ⟨a, b, xs, rfl, rfl, ha, hb, q⟩ := h
  obtain rfl : v = Value.ref a := rx
  obtain rfl : u = Value.ref b := ry
  obtain ⟨its, r0, ht⟩ := is_list I hb
  obtain ⟨js, r1, hl⟩ := is_list I ha
  cases r0
  have hu' : X.A.units < cLine := by omega
  cases r1 with
  | nil => exact RcNeAt.lists (e := fun _ => true) hl ht rfl hu' (fun j _ z => absurd z (Nat.not_lt_zero j)) _ _ _ _ ⟨.bl _, H, I, rfl, q⟩
  | cons r1 r2 => exact RcNeAt.lists_lengths hl ht (by simp) hu' _ _ _ _ ⟨.bl _, H, I, rfl, q⟩
theorem op_eqL0 {X : Cx} (hu : X.A.units + 64 < cLine) : OpR X (compareOp .Eq) (rEqL0 X.K) := by
  intro pins s σ H x y v u Q I rx ry h
  obtain ⟨a, b, xs, rfl, rfl, ha, hb, q⟩ := h
  obtain rfl : v = Value.ref a := rx
  obtain rfl : u = Value.ref b := ry
  obtain ⟨its, r0, ht⟩ := is_list I hb
  obtain ⟨js, r1, hl⟩ := is_list I ha
  cases r0
  have hu' : X.A.units < cLine := by omega
  cases r1 with
  | nil => exact RcAt.lists (e := fun _ => true) hl ht rfl hu' (fun j _ z => absurd z (Nat.not_lt_zero j)) _ _ _ _ ⟨.bl _, H, I, rfl, q⟩
  | cons r1 r2 => exact RcAt.lists_lengths hl ht (by simp) hu' _ _ _ _ ⟨.bl _, H, I, rfl, q⟩
def isIn (d : PyData) (zs : List Str) : Bool := match d with
  | .str z => decide (z ∈ zs)
  | _ => false
/-- x in (..), texts -/
def rInQ (K : PySem.W.Frag) : R2 := fun x y H Q => ∃ d a zs, Dq H x d ∧ y = .ref a ∧ SqT K H a (zs.map V.str) ∧ Q (.bl (isIn d zs)) H
theorem vals_strs {zs : List Str} {its : List Value} (r : Vals (zs.map V.str) its) : ∀ y ∈ its, ∃ z t, y = Value.str z t := by
  induction zs generalizing its with
  | nil =>
    cases r
    intro y hy
    cases hy
  | cons z zs ih =>
    cases r with
    | cons r1 r2 =>
      intro y hy
      rcases List.mem_cons.mp hy with rfl | hy
      · obtain ⟨t, rfl⟩ := r1
        exact ⟨_, _, rfl⟩
      · exact ih r2 y hy
theorem any_strs {zs : List Str} {its : List Value} (r : Vals (zs.map V.str) its) (x : Str) : its.any (fun y => match y with | .str z _ => z == x | _ => false) = decide (x ∈ zs) := by
  induction zs generalizing its with
  | nil =>
    cases r
    rfl
  | cons z zs ih =>
    cases r with
    | cons r1 r2 =>
      obtain ⟨t, rfl⟩ := r1
      rw [List.any_cons, ih r2]
      by_cases e : z = x
      · subst e
        simp
      · have : x ≠ z := fun h => e h.symm
        simp [e, this]
theorem op_inQ {X : Cx} (hu : X.A.units + 64 < cLine) : OpR X (compareOp .In) (rInQ X.K) := by
  intro pins s σ H x y v u Q I rx ry h
  obtain ⟨d, a, zs, hd, rfl, ha, q⟩ := h
  obtain rfl : u = Value.ref a := ry
  obtain ⟨its, r0, ht⟩ := is_tuple' I ha
  have hu' : X.A.in1.units < cLine := by show X.A.units + 1 < cLine; omega
  have go : ∀ (e : Value → Bool), (∀ z t, EqAt X.A.in1 s (.str z t) v (e (.str z t))) → its.any e = isIn d zs → wpAny (model X.prog X.w) X.A (compareOp .In v (.ref a)) (EP X pins σ Q) X.xe s := fun e he h => by
    refine in_tupleAt e ht (fun y hy => ?_) ⟨.bl (isIn d zs), H, I, ?_, q⟩
    · obtain ⟨z, t, rfl⟩ := vals_strs r0 y (by simpa using hy)
      exact he z t
    · have h2 : its.toArray.any e = isIn d zs := by rw [List.any_toArray]; exact h
      rw [h2]
      rfl
  have no : (∀ z t, EqAt X.A.in1 s (.str z t) v false) → isIn d zs = false → wpAny (model X.prog X.w) X.A (compareOp .In v (.ref a)) (EP X pins σ Q) X.xe s := fun he h => go (fun _ => false) he (by rw [h]; simp)
  cases hd with
  | non =>
    cases rx
    exact no (fun z t => .str_none z t) rfl
  | bl b =>
    cases rx
    exact no (fun z t => .str_bool z t b) rfl
  | int i =>
    obtain ⟨t, rfl⟩ := rx
    exact no (fun z t' => .str_int z t' i t) rfl
  | str z =>
    obtain ⟨t, rfl⟩ := rx
    exact go (fun y => match y with | .str z' _ => z' == z | _ => false) (fun z' t' => .str_str z' t' z t) (any_strs r0 z)
  | lst hs ha2 =>
    cases rx
    obtain ⟨js, r1, hl⟩ := is_list I (SqL.of hs)
    exact no (fun z t => .str_list z t hl hu') rfl
  | tup hs ha2 =>
    cases rx
    obtain ⟨js, r1, hl⟩ := is_tuple' I (SqT.of hs)
    exact no (fun z t => .str_tuple z t hl hu') rfl
  | d0 hp =>
    cases rx
    exact no (fun z t => eq_str_dict z t (dict_at I hp) hu') rfl
  | d1 hp =>
    cases rx
    exact no (fun z t => eq_str_dict z t (dict_at I hp) hu') rfl
/-! its type -/
def kindOf : PyData → String
  | .none => "NoneType"
  | .bool _ => "bool"
  | .int _ => "int"
  | .str _ => "str"
  | .list _ => "list"
  | .tuple _ => "tuple"
  | _ => "dict"
theorem Dq.ty {K : PySem.W.Frag} {H : Hp} {d : PyData} {v : V} (h : Dq H v d) : TyX K H v (.type (kindOf d)) := by
  cases h with
  | non => exact .base .non
  | bl b => exact .base (.bl b)
  | int i => exact .base (.int i)
  | str z => exact .base (.str z)
  | lst h _ => exact .base (.lst h)
  | tup h _ => exact .base (.tup h)
  | d0 h => exact .base (.dK h)
  | d1 h => exact .base (.dK h)
end Own

set_option Elab.async false
set_option maxRecDepth 100000
set_option maxHeartbeats 4000000
set_option linter.unusedVariables false
/-! sets of texts that can be walked: set(xs), sorted(set(xs)) -/
namespace Own
open PySem PySem.Spec PyProof.Rows L2
open PySem.Froz (SD sObj TxOk addTx tailTx)
/-- the table rises and can be walked -/
structure TabOk (w : World) (D : SD) : Prop where
  ris : Ris D.2.2.place.toList
  led : w.params.followText "set-order" = true ∨ D.2.2.led = true
theorem tab_tail {w : World} {ep : Nat} {es : Array (Int × Value)} {t : SetTable} {b : Bool} (r : Ris t.place.toList) (l : w.params.followText "set-order" = true ∨ t.led = true) : TabOk w (tailTx ep es t b) := by
  unfold tailTx
  split
  · exact ⟨relayAll_ris _ _ _, l.imp id fun z => (relayAll_led _ _ _).trans z⟩
  · exact ⟨r, l⟩
theorem tab_add {w : World} {D : SD} (g : TabOk w D) (h : Int) (x : Value) : TabOk w (addTx h x D) := by
  have r := layNew_ris D.2.2 D.1 h x g.ris
  have l := g.led.imp id fun z => (layNew_led D.2.2 D.1 h x).trans z
  unfold addTx
  refine tab_tail ?_ ?_
  · split
    · exact r
    · exact r
  · split
    · exact l
    · exact l
/-- the set of texts at p: l, each once -/
def TxSet (P : Program) (w : World) (h : Heap) (p : Addr) (l : List Str) : Prop := ∃ D, h.get? p = some (sObj "set" D) ∧ TxOk P w D l ∧ l.Nodup ∧ TabOk w D
theorem TxSet.at {P : Program} {w : World} {h h' : Heap} {p : Addr} {l : List Str} (T : TxSet P w h p l) (k : ∀ o, h.get? p = some o → h'.get? p = some o) : TxSet P w h' p l := by
  obtain ⟨D, g, r⟩ := T
  exact ⟨D, k _ g, r⟩
section
variable {P : Program} {w : World} {A : Around} {E : Value → Shared → Prop} {s : Shared}
theorem tx_has {p : Addr} {D : SD} {l : List Str} {z : Str} {u : Tok} {Q : Bool → Shared → Prop} (g : s.heap.get? p = some (sObj "set" D)) (F : TxOk P w D l) (hz : z ∈ l) (room : l.length < scanBound) (q : Q false s) :
    wpAny (model P w) A (setAddHashed p (.str z u) (hashStr w z)) Q E s := by
  obtain ⟨es, ep, t⟩ := D
  have is1 : (strKind P w).is z (.str z u) = true := PySem.Froz.is_str z u
  have few : es.size < scanBound := by have e : es.size = l.length := F.sz; omega
  obtain ⟨j, hj⟩ : ∃ j, List.findIdx? (fun e => (strKind P w).is z e.2) es.toList = some j := by
    cases c : List.findIdx? (fun e => (strKind P w).is z e.2) es.toList with
    | some j => exact ⟨j, rfl⟩
    | none =>
      obtain ⟨e, he, y⟩ := (F.mem z).mp hz
      have n := List.findIdx?_eq_none_iff.mp c e he
      rw [y] at n
      cases n
  unfold setAddHashed setAddHashedIn
  refine wpAny_holding (wpAny_bind (wpAny_setState_of g rfl F.fit ?_))
  dsimp only
  rw [byScan_of (knd := strKind P w) rfl few F.el]
  simp only [↓reduceIte]
  unfold setAddByScan
  refine wpAny_bind (wpAny_bind (wpAny_rule (wpAny_bind (wpAny_setScan_of (knd := strKind P w) (k := z) is1 g rfl F.fit F.el ?_))))
  rw [hj]
  exact wpAny_pure (wpAny_pure q)
theorem tx_add {p : Addr} {l : List Str} {z : Str} {u : Tok} {Q : Bool → Shared → Prop} (T : TxSet P w s.heap p l) (room : l.length + 1 < scanBound)
    (q : ∀ h' l' b, Heap.SameBut p s.heap h' → TxSet P w h' p l' → (∀ y, y ∈ l' ↔ y ∈ l ∨ y = z) → l'.length ≤ l.length + 1 → Q b { s with heap := h' }) :
    wpAny (model P w) A (setAddHashed p (.str z u) (hashStr w z)) Q E s := by
  obtain ⟨D, g, F, nd, t⟩ := T
  by_cases hz : z ∈ l
  · exact tx_has g F hz (by omega) (q s.heap l false (Heap.SameBut.refl p s.heap) ⟨D, g, F, nd, t⟩ (fun y => ⟨.inl, fun h => h.elim id fun e => e ▸ hz⟩) (Nat.le_succ _))
  · refine PySem.Froz.add_x g F hz room (q _ (z :: l) true (Heap.SameBut.update _ p _) ⟨_, PySem.Froz.get_upd _ g rfl, PySem.Froz.add_ok u F, List.nodup_cons.mpr ⟨hz, nd⟩, tab_add t _ _⟩ (fun y => ?_) (by simp))
    rw [List.mem_cons]
    exact Or.comm
theorem tx_new {w : World} {P : Program} {h : Heap} {p : Addr} (g : h.get? p = some (setO0 w)) : TxSet P w h p [] := by
  refine ⟨(#[], 0, .fresh 0 0 (!w.params.followText "set-order")), g, PySem.Froz.TxOk.nil (fits_nil _ _ _ _ _), List.nodup_nil, .nil, ?_⟩
  cases w.params.followText "set-order"
  · exact .inr rfl
  · exact .inl rfl
end
section
variable {P : Program} {w : World} {A : Around} {R : Result → Shared → Prop} {it : Addr} {fp wr : List Addr} {G : Array GenState → Array GenState → Prop} {n : Nat} {Pv : Nat → Value → Prop} {St : Nat → Shared → Prop} {zs : List Str}
/-- the members of l are those of zs -/
def Mem (l zs : List Str) : Prop := ∀ y, y ∈ l ↔ y ∈ zs
theorem tx_loop (W : WalksS P w A.in1 it fp wr G n Pv St) (S : Addr) (nS : S ∉ fp) (hn : zs.length = n) (room : n + 1 < scanBound) (val : ∀ i v, Pv i v → ∃ z t, zs[i]? = some z ∧ v = Value.str z t) :
    ∀ (left i : Nat) (l : List Str) (s : Shared), n - i = left → i ≤ n → St i s → l.length ≤ i → Mem l (zs.take i) → TxSet P w s.heap S l →
      (∀ s' l', Moved (S :: wr) G s s' → Mem l' zs → TxSet P w s'.heap S l' → R (.ok (.ret .none)) s') →
      codeAny (model P w) A (.builtin "set.update.loop" ⟨[.ref S, .ref it], []⟩) R s := by
  have mw : ∀ b ∈ wr, b ∈ S :: wr := fun b hb => List.mem_cons_of_mem _ hb
  have nw : S ∉ wr := fun z => nS (W.sub _ z)
  have stay : ∀ {s s' : Shared} {l : List Str}, Moved wr G s s' → TxSet P w s.heap S l → TxSet P w s'.heap S l := fun m q => q.at fun o e => m.heap S o nw e
  intro left
  induction left with
  | zero =>
    intro i l s hk hi st hl hc hS k
    obtain rfl : i = n := by omega
    rw [List.take_of_length_le (by omega)] at hc
    refine codeAny_builtin F.entry_set_update_loop ?_
    rw [Around.under_plainId F.plain_set_update_loop _]
    refine wpAny_bind (m := pyNext (.ref it)) (W.done s _ _ st fun s' m => ?_)
    exact wpAny_pure (k s' l (m.mono mw) hc (stay m hS))
  | succ left ih =>
    intro i l s hk hi st hl hc hS k
    refine codeAny_builtin F.entry_set_update_loop ?_
    rw [Around.under_plainId F.plain_set_update_loop _]
    refine wpAny_bind (m := pyNext (.ref it)) (W.item i s _ _ (by omega) st fun v s' hv st' m => ?_)
    obtain ⟨z, t, hz, rfl⟩ := val i v hv
    have hS1 := stay m hS
    refine wpAny_bind (m := holding [Value.str z t] (setAdd S (.str z t))) (wpAny_holding ?_)
    unfold setAdd
    refine wpAny_holding (wpAny_bind ((strKind P w).pyHash (k := z) (PySem.Froz.is_str z t) ?_))
    refine tx_add (s := { s' with toks := s'.toks + 1 }) hS1 (by omega) fun h' l' _ sb hS2 hm hl' => ?_
    have hc3 : Mem l' (zs.take (i + 1)) := fun y => by
      rw [hm y, hc y, List.take_add_one, hz]
      simp
    have off : ∀ b ∈ fp, b ≠ S := fun b hb e => nS (e ▸ hb)
    refine wpAny_pure ⟨plainId_quiet F.plain_set_update_loop _, ih (i + 1) _ _ (by omega) (by omega) (W.frame _ s' _ _ st' (Nat.le_succ _) fun b hb o e => (sb.2 b (off b hb)).trans e) (by omega) hc3 hS2 fun s2 l2 m2 hc2 hS4 => ?_⟩
    refine k s2 l2 (Moved.trans W.gtrans ((m.mono mw).then_heap (Nat.le_succ _) fun b o hb e => ?_) m2) hc2 hS4
    exact (sb.2 b fun e2 => hb (e2 ▸ List.mem_cons_self)).trans e
end
section
open PySem.W
variable {P : Program} {w : World} {A : Around} {E : Value → Shared → Prop} {s : Shared} {zs : List Str} {l : Addr} {items : Array Value}
/-- set.__init__ over an iterator of texts -/
theorem tx_init {S : Addr} {ocl : String} {od : Option Addr} {nn : Nat} {osl : Array (Option Value)} (tyS : ocl = "list" ∨ ocl = "tuple") (hh : A.handled = none) (hol : s.heap.get? l = some { cls := .type ocl, dict := od, data := .seq items nn, slots := osl }) (hS : s.heap.get? S = some (setO0 w)) (ne : l ≠ S)
    (val : ∀ (i : Nat) (v : Value), items[i]? = some v → ∃ z t, zs[i]? = some z ∧ v = Value.str z t) (hn : zs.length = items.size) (room : zs.length ≤ 4000) {Q : Unit → Shared → Prop}
    (h : ∀ h' tk l', Mem l' zs → TxSet P w h' S l' → (∀ b o, b ≠ S → s.heap.get? b = some o → h'.get? b = some o) → Q () { s with heap := h', toks := tk }) :
    wpAny (model P w) A (Builtin.Frozenset.updateFrom "set.__init__" S (.ref l)) Q E s := by
  have a1 := F.sub_list_set
  have a2 := F.sub_list_frozenset
  have a3 := F.sub_tuple_set
  have a4 := F.sub_tuple_frozenset
  have a5 : (Value.type "list" == Value.type "dict") = false := by decide
  have a6 : (Value.type "tuple" == Value.type "dict") = false := by decide
  have S0 : TxSet P w s.heap S [] := tx_new hS
  have lS : S < s.heap.objs.size := Heap.lt_size hS
  have ll : l < s.heap.objs.size := Heap.lt_size hol
  have sb : scanBound = 4096 := rfl
  have done : ∀ (io : Obj) (s' : Shared) (l' : List Str) (G : Array GenState → Array GenState → Prop), (∀ a b, G a b → b = a) → Moved (S :: [s.heap.objs.size]) G { s with heap := s.heap.push io } s' → Mem l' zs → TxSet P w s'.heap S l' → Q () s' := by
    intro io s' l' G hG m hc hS'
    obtain ⟨h', g2, d', tk', os'⟩ := s'
    have e1 : g2 = s.gens := hG _ _ m.gens
    have e2 : d' = s.drawn := m.drawn
    have e3 : os' = s.os := m.os
    subst e1 e2 e3
    refine h h' tk' l' hc hS' fun b o hb e => m.heap b o (fun z => ?_) (Heap.get?_push_of_some _ e)
    rcases List.mem_cons.mp z with z | z
    · exact hb z
    · exact Nat.ne_of_lt (Heap.lt_size e) (List.mem_singleton.mp z)
  rcases tyS with rfl | rfl
  · have hl : s.heap.IsList l items := ⟨_, hol, rfl, nn, rfl⟩
    unfold Builtin.Frozenset.updateFrom
    generalize hPI : pyIter = PI
    wp_walk
    subst hPI
    refine wpAny_pyIter_list hl (wpAny_bind (wpAny_runValue ?_))
    refine tx_loop (zs := zs) ((Walks.list (A := A.in1) hh s.heap.objs.size l (Nat.ne_of_lt ll) items).toS) S (fun z => ?_) hn (by omega) val (items.size - 0) 0 [] _ rfl (Nat.zero_le _) ⟨⟨_, Heap.get?_push_size _ rfl, rfl, rfl⟩, hl.push _⟩ (Nat.zero_le _) (fun y => Iff.rfl)
      (S0.at fun o e => Heap.get?_push_of_some _ e) fun s' l' m hc hS' => wpAny_pure (done _ s' l' _ (fun _ _ z => z) m hc hS')
    rcases List.mem_cons.mp z with z | z
    · exact Nat.ne_of_lt lS z
    · exact ne (List.mem_singleton.mp z).symm
  · have hl : s.heap.IsTuple l items := ⟨_, hol, rfl, nn, rfl⟩
    unfold Builtin.Frozenset.updateFrom
    generalize hPI : pyIter = PI
    wp_walk
    subst hPI
    refine wpAny_pyIter_tuple hl (wpAny_bind (wpAny_runValue ?_))
    refine tx_loop (zs := zs) ((Walks.tuple (A := A.in1) hh s.heap.objs.size l (Nat.ne_of_lt ll) items).toS) S (fun z => ?_) hn (by omega) val (items.size - 0) 0 [] _ rfl (Nat.zero_le _) ⟨⟨_, Heap.get?_push_size _ rfl, rfl, rfl⟩, hl.push _⟩ (Nat.zero_le _) (fun y => Iff.rfl)
      (S0.at fun o e => Heap.get?_push_of_some _ e) fun s' l' m hc hS' => wpAny_pure (done _ s' l' _ (fun _ _ z => z) m hc hS')
    rcases List.mem_cons.mp z with z | z
    · exact Nat.ne_of_lt lS z
    · exact ne (List.mem_singleton.mp z).symm
set_option maxHeartbeats 3200000 in
theorem call_set_tx {ocl : String} {od : Option Addr} {nn : Nat} {osl : Array (Option Value)} (tyS : ocl = "list" ∨ ocl = "tuple") (hh : A.handled = none) (hol : s.heap.get? l = some { cls := .type ocl, dict := od, data := .seq items nn, slots := osl })
    (val : ∀ (i : Nat) (v : Value), items[i]? = some v → ∃ z t, zs[i]? = some z ∧ v = Value.str z t) (hn : zs.length = items.size) (room : zs.length ≤ 4000) {Q : Value → Shared → Prop}
    (h : ∀ h' tk l', Mem l' zs → TxSet P w h' s.heap.objs.size l' → (∀ b o, s.heap.get? b = some o → h'.get? b = some o) → Q (.ref s.heap.objs.size) { s with heap := h', toks := tk }) :
    wpAny (model P w) A (call (.type "set") [.ref l]) Q E s := by
  let S := s.heap.objs.size
  let hp0 := s.heap.push (setO0 w)
  have hnew : hp0.get? S = some (setO0 w) := Heap.get?_push_size _ rfl
  have hold : ∀ b o, s.heap.get? b = some o → hp0.get? b = some o := fun b o e => Heap.get?_push_of_some _ e
  have ne : l ≠ S := Nat.ne_of_lt (Heap.lt_size hol)
  have ty0 : Shared.TypeIs { s with heap := hp0 } (.ref S) "set" := ⟨_, hnew, rfl⟩
  obtain ⟨c, tl, hmro⟩ := F.called_set.mro
  have m1 := F.called_set.made
  have m2 := F.called_set.sub
  have m3 := F.called_set.notType
  have m4 := F.called_set.canCreate
  have m5 := F.typeCall_set_1 (.ref l)
  have m6 := F.called_set.init.lookup
  have m7 := F.called_set.init.bind (.ref S)
  refine wpAny_call (codeAny_of_tree ?_)
  show wpAny _ _ (callAny (.type "set") _) _ _ _
  refine wpAny_pure ⟨Code.quiet_builtin _ (by decide +kernel), codeAny_builtin F.entry_type_call ?_⟩
  rw [Around.under_plain (weight_type_call_type "set" [.ref l] []) rfl]
  repeat (any_goals (first | assumption | wp_step))
  refine codeAny_mono (code_set_led1 (.ref l) (E := E) (Q₁ := fun r s1 => r = .ref S ∧ s1 = { s with heap := hp0 }) ⟨rfl, rfl⟩) fun r s1 hr => ?_
  match r, hr with
  | .error e, hr => exact hr
  | .ok .next, hr => exact hr.elim
  | .ok .brk, hr => exact hr.elim
  | .ok .cont, hr => exact hr.elim
  | .ok (.ret u), hr =>
    obtain ⟨rfl, rfl⟩ := hr
    repeat (any_goals (first | assumption | wp_step))
    refine codeAny_mono (codeAny_call_builtin (R := wants (fun r s2 => r = .none ∧ ∃ h' tk l', s2 = { s with heap := h', toks := tk } ∧ Mem l' zs ∧ TxSet P w h' S l' ∧ ∀ b o, b ≠ S → hp0.get? b = some o → h'.get? b = some o) E)
      F.called_set.init.plain F.entry_set_init (check_set_init_1 ty0 ?_)) fun r2 s2 hr2 => ?_
    · unfold Builtin.«set.__init__» noKeywords
      generalize hU : Builtin.Frozenset.updateFrom = U
      wp_walk
      subst hU
      refine tx_init (s := { s with heap := hp0 }) (zs := zs) tyS (by simpa using hh) (hold _ _ hol) hnew ne val hn room fun h' tk c hc hS k => ?_
      exact wpAny_pure ⟨rfl, h', tk, c, rfl, hc, hS, k⟩
    · match r2, hr2 with
      | .error e, hr2 => exact hr2
      | .ok .next, hr2 => exact hr2.elim
      | .ok .brk, hr2 => exact hr2.elim
      | .ok .cont, hr2 => exact hr2.elim
      | .ok (.ret u), hr2 =>
        obtain ⟨rfl, h', tk, c, rfl, hc, hS, k⟩ := hr2
        repeat (any_goals (first | assumption | wp_step))
        exact h _ _ _ hc hS fun b o e => k b o (Nat.ne_of_lt (Heap.lt_size e)) (hold b o e)
end
end Own

set_option Elab.async false
set_option maxRecDepth 100000
set_option maxHeartbeats 4000000
set_option linter.unusedVariables false
/-! set(xs) and sorted(s): the rules -/
namespace Own
open PySem PySem.Spec PyProof.Rows L2
open PySem.Froz (SD sObj TxOk)
abbrev txLt (a b : Str) : Prop := a.cps.toList < b.cps.toList
def txtOf : Value → Str
  | .str z _ => z
  | _ => Str.empty
def IsTx (v : Value) (z : Str) : Prop := ∃ t, v = .str z t
theorem cover_perm : ∀ {l ts : List Str}, l.Nodup → (∀ x ∈ l, x ∈ ts) → ts.length = l.length → ts.Perm l
  | [], ts, _, _, e => by
    obtain rfl := List.eq_nil_of_length_eq_zero e
    exact .nil
  | x :: l, ts, nd, h, e => by
    have hx := h x List.mem_cons_self
    have p := List.perm_cons_erase hx
    obtain ⟨n1, n2⟩ := List.nodup_cons.mp nd
    refine p.trans (List.Perm.cons x (cover_perm n2 (fun y hy => ?_) ?_))
    · exact (List.mem_erase_of_ne fun (z : y = x) => n1 (z ▸ hy)).mpr (h y (List.mem_cons_of_mem _ hy))
    · rw [List.length_erase_of_mem hx, e]
      rfl
theorem each_txt {h : Heap} : ∀ {vs : List Value}, (∀ v ∈ vs, ∃ z, IsTx v z) → PySem.W.EachIs IsTx vs (vs.map txtOf) ∧ PySem.W.EachIs (fun v b => ∃ as, Reads h v (PyData.str b) as) vs (vs.map txtOf)
  | [], _ => ⟨.nil, .nil⟩
  | v :: vs, k => by
    obtain ⟨a, b⟩ := each_txt (h := h) fun u hu => k u (List.mem_cons_of_mem _ hu)
    obtain ⟨z, t, rfl⟩ := k v List.mem_cons_self
    exact ⟨.cons ⟨t, rfl⟩ a, .cons ⟨_, .str z t⟩ b⟩
theorem each_vals : ∀ {vs : List Value} {ys : List Str}, PySem.W.EachIs IsTx vs ys → Vals (ys.map V.str) vs
  | _, _, .nil => .nil
  | _, _, .cons a b => .cons a (each_vals b)
theorem ts_total : ∀ {β : Type} (k : β → PyData), PySem.W.TotalLe (PySem.W.dataLe false k) := fun k => by
  rw [PySem.W.dataLe_eq]
  have tr := fun x y z => lex_negTrans (O := itemOrd) (PySem.W.keyToks (k x)) (PySem.W.keyToks (k y)) (PySem.W.keyToks (k z))
  refine ⟨fun a b c h1 h2 => ?_, fun a b => ?_⟩
  · have a1 : PySem.W.dataLt (k b) (k a) = false := by simpa using h1
    have a2 : PySem.W.dataLt (k c) (k b) = false := by simpa using h2
    show (!PySem.W.dataLt (k c) (k a)) = true
    cases h : PySem.W.dataLt (k c) (k a) with
    | false => rfl
    | true =>
      rcases tr c b a h with z | z
      · rw [show PySem.W.dataLt (k c) (k b) = true from z] at a2
        cases a2
      · rw [show PySem.W.dataLt (k b) (k a) = true from z] at a1
        cases a1
  · show (!PySem.W.dataLt (k b) (k a)) = true ∨ (!PySem.W.dataLt (k a) (k b)) = true
    cases h : PySem.W.dataLt (k b) (k a) with
    | false => exact .inl rfl
    | true =>
      refine .inr ?_
      cases h2 : PySem.W.dataLt (k a) (k b) with
      | false => rfl
      | true =>
        have z : PySem.W.dataLt (k a) (k a) = true := lex_trans (O := itemOrd) _ _ _ h2 h
        rw [show PySem.W.dataLt (k a) (k a) = false from lex_irrefl _] at z
        cases z
theorem str_total {a b : Str} (h : a ≠ b) (h2 : ¬ txLt a b) : txLt b a := by
  rcases Decidable.em (txLt b a) with q | q
  · exact q
  · have e := List.le_antisymm (List.not_lt.mp q) (List.not_lt.mp h2)
    refine absurd ?_ h
    obtain ⟨a⟩ := a
    obtain ⟨b⟩ := b
    exact congrArg Str.mk (Array.toList_inj.mp e)
theorem asc_of {zs : List Str} (nd : zs.Nodup) : (zs.mergeSort (PySem.W.dataLe false PyData.str)).Pairwise txLt := by
  have pm := List.mergeSort_perm zs (PySem.W.dataLe false PyData.str)
  have t := ts_total PyData.str
  have pw := List.pairwise_mergeSort (le := PySem.W.dataLe false PyData.str) (fun a b c => t.1 a b c) (fun a b => by simpa using t.2 a b) zs
  have nd2 := pm.nodup_iff.mpr nd
  refine (pw.and nd2).imp ?_
  rintro a b ⟨h1, h2⟩
  have z : PySem.W.dataLt (.str b) (.str a) = false := by simpa [PySem.W.dataLe_eq] using h1
  rw [PySem.W.dataLt_str] at z
  exact str_total (fun e => h2 e.symm) (of_decide_eq_false z)
section
variable {P : Program} {w : World} {A : Around} {E : Value → Shared → Prop} {s : Shared}
open PySem.W PySem.Calls in
theorem sorted_tx {p : Addr} {l : List Str} {Q : Value → Shared → Prop} (T : TxSet P w s.heap p l) (hl : l.length ≤ 4000) (hh : A.handled = none) (hu : A.units + 64 < cLine)
    (h : ∀ (s1 : Shared) (h2 : Heap) (out : List Value) (m : Nat) (ys : List Str), (∀ b ob, s.heap.get? b = some ob → h2.get? b = some ob) → s1.gens = s.gens → s1.os = s.os → s.heap.objs.size ≤ s1.heap.objs.size →
      h2.get? s1.heap.objs.size = some (seqObj "list" out.toArray m) → EachIs IsTx out ys → ys.Pairwise txLt → ys.Perm l → Q (.ref s1.heap.objs.size) { s1 with heap := h2 }) :
    wpAny (model P w) A (call (.builtin "sorted") [.ref p]) Q E s := by
  obtain ⟨D, g, F, nd, tb⟩ := T
  obtain ⟨es, ep, t⟩ := D
  have hz : es.size = l.length := F.sz
  have sb : scanBound = 4096 := rfl
  refine call_function_entry_kw kind_sorted plain_sorted entry_sorted (args_sorted1 _) ?_
  unfold Builtin.«sorted»
  refine wpAny_bind (m := checkCount "sorted" 1 1 _) (wpAny_pure ?_)
  refine wpAny_bind (collect_set (A := A.in1) hh ⟨_, g, rfl, rfl⟩ F.fit (by show es.size < scanBound; omega) tb.ris tb.led fun s1 vs k1 z1 g1 o1 pm => ?_)
  have el : ∀ e ∈ es.toList, ∃ z, IsTx e.2 z := fun e he => by
    obtain ⟨⟨z, hz, _⟩, _⟩ := F.el e he
    revert hz
    generalize e.2 = v
    intro hz
    have hz : Value.isStrOf z v = true := hz
    cases v with
    | str y t => exact ⟨y, t, rfl⟩
    | _ => simp [Value.isStrOf] at hz
  have tx : ∀ v ∈ vs, ∃ z, IsTx v z := fun v hv => by
    obtain ⟨e, he, rfl⟩ := List.mem_map.mp (pm.mem_iff.mp hv)
    exact el e he
  have pl : (vs.map txtOf).Perm l := by
    refine (pm.map txtOf).trans (cover_perm nd (fun x hx => ?_) ?_)
    · obtain ⟨e, he, q⟩ := (F.mem x).mp hx
      refine List.mem_map.mpr ⟨e.2, List.mem_map.mpr ⟨e, he, rfl⟩, ?_⟩
      obtain ⟨z, t, hzt⟩ := el e he
      rw [hzt] at q ⊢
      exact (strKind P w).inj (.str z t) z x (PySem.Froz.is_str z t) q
    · rw [List.length_map, List.length_map, Array.length_toList]
      exact hz
  have lv : vs.length ≤ sizeLine := by
    have := pl.length_eq
    rw [List.length_map] at this
    rw [this]
    exact Nat.le_trans hl (by decide)
  obtain ⟨e, er⟩ := each_txt (h := sortingHeap (s1.heap.push (seqObj "list" vs.toArray 0)) s1.heap.objs.size vs) tx
  have al : AllAlike ((vs.map txtOf).map PyData.str) := by
    intro d hd d' hd'
    obtain ⟨x, _, rfl⟩ := List.mem_map.mp hd
    obtain ⟨y, _, rfl⟩ := List.mem_map.mp hd'
    rfl
  have so : Sortable ((vs.map txtOf).map PyData.str) := .inr fun d hd => by
    obtain ⟨x, _, rfl⟩ := List.mem_map.mp hd
    exact ⟨(fun z => by cases z), fun xs z => by cases z⟩
  have un : ∀ b, b ∈ vs.map txtOf → A.in1.in1.units + (PyData.str b).depth < cLine := fun b _ => by
    show A.units + 1 + 1 + 0 < cLine
    omega
  refine wpAny_bind (wpAny_newList ?_ (by simpa using lv))
  have at_ : (s1.heap.push (seqObj "list" vs.toArray 0)).get? s1.heap.objs.size = some (seqObj "list" vs.toArray 0) := Heap.get?_push_size _ rfl
  refine wpAny_bind (wpAny_holding (wpAny_call_entry_kw slot_list_sort ⟨_, at_, rfl⟩ entry_list_sort ?body (args_list_sort _)))
  case body =>
    have fin := list_sort_vals (prog := P) (w := w) (A := A.in1.in1) (E := E) (s := { s1 with heap := s1.heap.push (seqObj "list" vs.toArray 0) }) (κ := dataKind (sortingHeap (s1.heap.push (seqObj "list" vs.toArray 0)) s1.heap.objs.size vs) ((vs.map txtOf).map PyData.str))
      (P := fun f s' => f = .done (.ret .none) ∧ s' = { s1 with heap := sortedHeap (s1.heap.push (seqObj "list" vs.toArray 0)) s1.heap.objs.size vs (sortVals (dataKind (sortingHeap (s1.heap.push (seqObj "list" vs.toArray 0)) s1.heap.objs.size vs) ((vs.map txtOf).map PyData.str)) false vs vs).toArray })
      at_ (SortsAt.data (s := { s1 with heap := sortingHeap (s1.heap.push (seqObj "list" vs.toArray 0)) s1.heap.objs.size vs }) (each_map (R := fun v d => ∃ as, Reads (sortingHeap (s1.heap.push (seqObj "list" vs.toArray 0)) s1.heap.objs.size vs) v d as) PyData.str er) al so (bound_map un)) lv ⟨rfl, rfl⟩
    refine wpAny_mono fin (fun f s' hf => ?_) fun _ _ z => z
    obtain ⟨rfl, rfl⟩ := hf
    refine ⟨_, rfl, wpAny_pure ⟨_, rfl, ?_⟩⟩
    obtain ⟨m, hm⟩ := sortedHeap_at (out := (sortVals (dataKind (sortingHeap (s1.heap.push (seqObj "list" vs.toArray 0)) s1.heap.objs.size vs) ((vs.map txtOf).map PyData.str)) false vs vs).toArray) at_
    refine h s1 _ _ m _ (fun b ob q => ?_) g1 o1 z1 hm (sortVals_data false e er al) (asc_of (pl.nodup_iff.mpr nd)) ((List.mergeSort_perm _ _).trans pl)
    have q1 := k1 b ob q
    exact (sortedHeap_old (Nat.ne_of_lt (Heap.lt_size q1)) (by rw [size_push']; exact Nat.lt_succ_of_lt (Heap.lt_size q1))).trans (Heap.get?_push_of_some _ q1)
end
/-- the set of the texts zs at p -/
def SetD (P : Program) (w : World) (p : Addr) (zs : List Str) : HO := .ext fun h => ∃ l, Mem l zs ∧ l.length ≤ 4000 ∧ TxSet P w h p l
section
variable {X : Cx}
theorem setD_new {H : Hp} {h : Heap} {p : Addr} {zs l : List Str} (hm : Mem l zs) (hl : l.length ≤ 4000) (T : TxSet X.prog X.w h p l) : ObjOk X.prog X.w H h p (SetD X.prog X.w p zs) :=
  ⟨⟨l, hm, hl, T⟩, ⟨_, T.choose_spec.1⟩, fun h1 h2 ⟨l, hm, hl, T⟩ k => ⟨l, hm, hl, T.at k⟩⟩
/-- set(xs), texts, to be gone through -/
def rSetT (P : Program) (w : World) (K : PySem.W.Frag) : List V → Hp → VK → Prop := fun xs H Q => ∃ (a : Addr) (zs : List Str), xs = [.ref a] ∧ (SqL K H a (zs.map V.str) ∨ SqT K H a (zs.map V.str)) ∧ zs.length ≤ 4000 ∧
  ∀ p, H p = none → Q (.ref p) (upd H p (SetD P w p zs))
theorem sub_len : ∀ {l zs : List Str}, l.Nodup → (∀ x ∈ l, x ∈ zs) → l.length ≤ zs.length
  | [], _, _, _ => Nat.zero_le _
  | x :: l, zs, nd, h => by
    obtain ⟨n1, n2⟩ := List.nodup_cons.mp nd
    have hx := h x List.mem_cons_self
    have := sub_len (zs := zs.erase x) n2 fun y hy => (List.mem_erase_of_ne fun (z : y = x) => n1 (z ▸ hy)).mpr (h y (List.mem_cons_of_mem _ hy))
    rw [List.length_erase_of_mem hx] at this
    have := List.length_pos_of_mem hx
    simp only [List.length_cons]
    omega
theorem call_setT (hc : X.calm = true) : CallR X (.type "set") (rSetT X.prog X.w X.K) := by
  intro pins s σ H xs us Q I r h
  obtain ⟨a, zs, rfl, hs, hz, q⟩ := h
  obtain ⟨u, rfl, ru⟩ := r.one
  obtain rfl : u = Value.ref a := ru
  have fin : ∀ h' tk l', Mem l' zs → TxSet X.prog X.w h' s.heap.objs.size l' → (∀ b o, s.heap.get? b = some o → h'.get? b = some o) → EP X pins σ Q (.ref s.heap.objs.size) { s with heap := h', toks := tk } := fun h' tk l' hm hT keep => by
    have nd := hT.choose_spec.2.2.1
    have ll : l'.length ≤ 4000 := Nat.le_trans (sub_len nd fun x hx => (hm x).mp hx) hz
    exact ⟨.ref _, _, I.laid (t' := tk) keep (Nat.le_refl _) (setD_new hm ll hT), rfl, q _ (I.hok.fresh (Nat.le_refl _))⟩
  rcases hs with hs | hs
  · obtain ⟨its, rv, ⟨⟨oc, od, odt, osl⟩, n2, ho, hcl, hd, hdt⟩, _⟩ := I.list hs
    simp only at hcl hd hdt
    subst hcl hdt
    exact call_set_tx (.inl rfl) (I.ok.hd hc) ho (fun i v hv => txt_vals rv i v hv) (by rw [List.size_toArray, ← rv.length, List.length_map]) hz fin
  · obtain ⟨its, rv, ⟨⟨oc, od, odt, osl⟩, ho, hcl, n2, hdt⟩, _⟩ := I.tuple hs
    simp only at hcl hdt
    subst hcl hdt
    exact call_set_tx (.inr rfl) (I.ok.hd hc) ho (fun i v hv => txt_vals rv i v hv) (by rw [List.size_toArray, ← rv.length, List.length_map]) hz fin
/-- sorted(s), s such a set -/
def rSortedT (P : Program) (w : World) : List V → Hp → VK → Prop := fun xs H Q => ∃ (p : Addr) (zs : List Str), xs = [.ref p] ∧ H p = some (SetD P w p zs) ∧
  ∀ q ys, H q = none → ys.Pairwise txLt → Mem ys zs → Q (.ref q) (upd H q (.lst (ys.map V.str)))
theorem call_sortedT (hc : X.calm = true) (hu : X.A.units + 64 < cLine) : CallR X (.builtin "sorted") (rSortedT X.prog X.w) := by
  intro pins s σ H xs us Q I r h
  obtain ⟨p, zs, rfl, hp, q⟩ := h
  obtain ⟨u, rfl, ru⟩ := r.one
  obtain rfl : u = Value.ref p := ru
  obtain ⟨⟨l, hm, hl, T⟩, _⟩ := I.hok p _ hp
  refine sorted_tx T hl (I.ok.hd hc) hu fun s1 h2 out m ys k g1 o1 z1 at_ e asc pm => ?_
  have lo : (ys.map V.str).length ≤ sizeLine := by
    rw [List.length_map, pm.length_eq]
    exact Nat.le_trans hl (by decide)
  have free : H s1.heap.objs.size = none := I.hok.fresh z1
  refine ⟨.ref _, _, I.call' (s' := { s1 with heap := h2 }) (ch := []) o1 (Un.laid (o := .lst (ys.map V.str)) k z1 free) (I.hok.laid k z1 ⟨lo, out, m, each_vals e, at_⟩) (by show AllBare s1.gens; rw [g1]; exact I.bare) (fun _ z => by cases z), rfl, q _ ys free asc fun y => ?_⟩
  rw [pm.mem_iff, hm y]
end
end Own

set_option Elab.async false
set_option maxRecDepth 100000
set_option maxHeartbeats 4000000
set_option linter.unusedVariables false
/-! x[::-1], x a tuple or a text -/
namespace Own
open PySem PySem.Spec PyProof.Rows L2
section
variable {prog : Program} {w : World} {A : Around} {E : Value → Shared → Prop} {s : Shared}
theorem rev_adjust (n : Nat) : Builtin.Slice.sliceAdjust none none (-1) (n : Int) = ((n : Int) - 1, -1) := rfl
theorem rev_places (n : Nat) : Builtin.Slice.slicePlaces ((n : Int) - 1) (-1) (-1) = n := by
  unfold Builtin.Slice.slicePlaces
  rw [if_neg (by decide)]
  split
  · have e : ((n : Int) - 1 - -1 - 1) / (- -1) + 1 = n := by
      rw [show (- -1 : Int) = 1 from rfl, Int.ediv_one]
      omega
    rw [e]
    rfl
  · omega
theorem rev_pick {α : Type} (xs : List α) : ((List.range xs.length).filterMap fun (k : Nat) => xs[((xs.length : Int) - 1 + (k : Int) * (-1)).toNat]?) = xs.reverse := by
  apply List.ext_getElem?
  intro i
  have e : ∀ m, m ≤ xs.length → ((List.range m).filterMap fun (k : Nat) => xs[((xs.length : Int) - 1 + (k : Int) * (-1)).toNat]?) = xs.reverse.take m := by
    intro m
    induction m with
    | zero => intro _; simp
    | succ m ih =>
      intro hm
      have hx : xs.reverse[m]? = some xs[xs.length - 1 - m] := by
        rw [List.getElem?_reverse (by omega)]
        exact List.getElem?_eq_getElem (by omega)
      have hy : xs[((xs.length : Int) - 1 + (m : Int) * (-1)).toNat]? = some xs[xs.length - 1 - m] := by
        rw [show ((xs.length : Int) - 1 + (m : Int) * (-1)).toNat = xs.length - 1 - m by omega]
        exact List.getElem?_eq_getElem (by omega)
      rw [List.range_succ, List.filterMap_append, ih (by omega), List.take_add_one, hx]
      simp only [List.filterMap_cons, List.filterMap_nil, hy]
      rfl
  rw [e _ (Nat.le_refl _), List.take_of_length_le (by rw [List.length_reverse]; exact Nat.le_refl _)]
theorem tup_rev {t sl : Addr} {its : List Value} {vs : Value} {Q : Value → Shared → Prop} (ht : IsTup s.heap t its.toArray) (hs : s.heap.IsSliceOf sl .none .none vs) (ps : IsPart vs (some (-1))) (hz : its.length ≤ sizeLine)
    (h : Q (.ref s.heap.objs.size) { s with heap := s.heap.push { cls := .type "tuple", data := .seq its.reverse.toArray } }) : wpAny (model prog w) A (getItem (.ref t) (.ref sl)) Q E s := by
  obtain ⟨os, g1, g2, g3⟩ := id hs
  have ty : s.TypeIs (.ref sl) "slice" := ⟨os, g1, g2⟩
  have fit : sizeOk (.seq its.reverse.toArray) := by
    show its.reverse.toArray.size ≤ sizeLine
    rw [List.size_toArray, List.length_reverse]
    exact hz
  unfold getItem
  try with_reducible refine wpAny_holding ?_
  refine wpAny_bind (wpAny_sequenceKey ht.typeIs (by decide) (wpAny_bind (wpAny_callSpecial?_slot (name := Str.ofString "__getitem__") ht.typeIs PyProof.Rows.slot_tuple_getitem (wpAny_call_entry PyProof.Rows.slot_tuple_getitem ht.typeIs entry_tuple_getitem ?_ (args_tuple_getitem _ _)))))
  show wpAny _ _ (Builtin.Tuple.tupleItemsOf (.ref t) >>= _) _ _ s
  refine wpAny_bind (tupleItemsOf_ ht (wpAny_bind (wpAny_typeOf ty ?_)))
  rw [if_pos (by decide)]
  refine wpAny_bind ?_
  have app : ∀ {R : Int × Int × Nat → Shared → Prop}, R ((its.length : Int) - 1, -1, its.length) s → wpAny (model prog w) A.in1 (Builtin.Slice.sliceApplied (.ref sl) (pure ((its.toArray.size : Nat) : Int))) R E s := fun {R} r => by
    unfold Builtin.Slice.sliceApplied Builtin.Slice.sliceFields
    refine wpAny_bind (wpAny_bind (wpAny_field g1 g3 (x := .none) rfl (wpAny_bind (wpAny_field g1 g3 (x := .none) rfl (wpAny_bind (wpAny_field g1 g3 (x := vs) rfl (wpAny_pure ?_)))))))
    refine wpAny_bind (HT.slicePart_ ps ?_)
    show wpAny _ _ (if ((-1 : Int) == 0) = true then _ else _) _ _ s
    rw [if_neg (by decide)]
    refine wpAny_bind (HT.slicePart_ .none (wpAny_bind (HT.slicePart_ .none (wpAny_bind (wpAny_pure ?_)))))
    show wpAny _ _ (match Builtin.Slice.sliceAdjust none none (-1) ((its.toArray.size : Nat) : Int) with | (lo, hi) => pure (lo, (-1 : Int), Builtin.Slice.slicePlaces lo hi (-1))) _ _ s
    rw [rev_adjust]
    show wpAny _ _ (pure (((its.toArray.size : Nat) : Int) - 1, (-1 : Int), Builtin.Slice.slicePlaces (((its.toArray.size : Nat) : Int) - 1) (-1) (-1))) _ _ s
    rw [rev_places, List.size_toArray]
    exact wpAny_pure r
  refine app ?_
  show wpAny _ _ (if ((((its.length : Int) - 1) == 0 && (-1 : Int) == 1 && its.length == its.toArray.size) = true) then _ else _) _ _ s
  rw [if_neg (by simp)]
  have e : ((List.range its.length).filterMap fun (k : Nat) => its.toArray[((its.length : Int) - 1 + (k : Int) * (-1)).toNat]?).toArray = its.reverse.toArray := by
    rw [← rev_pick its]
    simp
  rw [e]
  first
    | exact wpAny_bind (m := Builtin.Tuple.tupleExact _) (wpAny_newObj_type (wpAny_pure ⟨_, rfl, wpAny_pure h⟩) fit)
    | exact wpAny_bind (m := Builtin.Tuple.tupleExact _) (wpAny_newObj_type (wpAny_bind (wpAny_pure (wpAny_pure ⟨_, rfl, wpAny_pure h⟩))) fit)
    | exact wpAny_bind (wpAny_bind (m := Builtin.Tuple.tupleExact _) (wpAny_newObj_type (wpAny_pure (wpAny_pure ⟨_, rfl, wpAny_pure h⟩)) fit))
    | exact wpAny_bind (wpAny_bind (m := Builtin.Tuple.tupleExact _) (wpAny_newObj_type (wpAny_pure ⟨_, rfl, wpAny_pure h⟩) fit))
end
/-- the text turned round -/
def revS (z : Str) : Str := Txt.sliceBy z none none (-1, 0)
/-- what x[::-1] is -/
def RvR (X : Cx) (r : V → Hp → VK → Prop) : Prop := ∀ (pins : List (Addr × Obj)) (s : Shared) (σ : L2.St) (H : Hp) (x : V) (v vs : Value) (sl : Addr) (Q : VK), Inv X pins σ H s → RelV x v → s.heap.IsSliceOf sl .none .none vs → IsPart vs (some (-1)) → r x H Q →
  ∃ T id, typeLookup (.type T) "__getitem__" = pure (some (.builtin id)) ∧ s.TypeIs v T ∧ wpAny (model X.prog X.w) X.A (getItem v (.ref sl)) (EP X pins σ Q) X.xe s
section
variable {X : Cx}
def rRvT (K : PySem.W.Frag) : V → Hp → VK → Prop := fun x H Q => ∃ a xs, x = .ref a ∧ SqT K H a xs ∧ ∀ p, H p = none → Q (.ref p) (upd H p (.tup xs.reverse))
theorem rv_tup : RvR X (rRvT X.K) := by
  intro pins s σ H x v vs sl Q I rx hs ps h
  obtain ⟨a, xs, rfl, hx, q⟩ := h
  obtain rfl : v = Value.ref a := rx
  obtain ⟨its, r, ht, hz⟩ := I.tuple hx
  refine ⟨"tuple", _, PyProof.Rows.slot_tuple_getitem.lookup, ht.typeIs, tup_rev ht hs ps (by rw [← r.length]; exact hz) ?_⟩
  exact ⟨.ref _, _, I.laid (t' := s.toks) (o := .tup xs.reverse) (fun b ob e => Heap.get?_push_of_some _ e) (Nat.le_refl _) ⟨by rw [List.length_reverse]; exact hz, _, r.reverse, IsTup.new _ _⟩, rfl, q _ (I.hok.fresh (Nat.le_refl _))⟩
def rRvS : V → Hp → VK → Prop := fun x H Q => ∃ z, x = .str z ∧ z.length ≤ sizeLine ∧ Q (.str (revS z)) H
theorem rv_str : RvR X rRvS := by
  intro pins s σ H x v vs sl Q I rx hs ps h
  obtain ⟨z, rfl, hz, q⟩ := h
  obtain ⟨t, rfl⟩ := rx
  obtain ⟨os, g1, g2, g3⟩ := hs
  cases ps with
  | int i u =>
    refine ⟨"str", _, F.slot_str_getitem.lookup, typeIs_str _ _ _, wpAny_getItem_str_slice (l := none) (u := none) (st := some (-1, u)) ⟨os, g1, g2, g3⟩ rfl (post_val_or_str ⟨?_, fun t' c => ?_⟩)⟩
    · exact Nat.le_trans (Txt.sliceBy_le z none none (-1, u) (by show (-1 : Int) ≠ 0; decide)) hz
    · exact ⟨.str _, H, I.tok _, ⟨_, rfl⟩, q⟩
def tRv (r : V → Hp → VK → Prop) (te : TE) : TE := fun σ H Q => te σ H fun x H1 => r x H1 Q
theorem pe_rev {e : Expr} {te : TE} {r : V → Hp → VK → Prop} {k : Nat} {p1 p2 p3 pos : Pos} (hr : RvR X r) (he : PE X e te) :
    PE X (e.Subscript (.Slice none none (some (.UnaryOp .USub (.Constant (.int 1) k p1) p2)) p3) pos) (tRv r te) := by
  constructor
  intro pins s σ H Q I h
  refine Subscript_ (thn (he.run pins s σ H _ I h) fun v s1 ⟨x, H1, I1, r1, q1⟩ => ?_)
  have one : PO X (some (.UnaryOp .USub (.Constant (.int 1) k p1) p2)) (tPart (tUn (rU fun i => .int (-i)) (tC (.int 1)))) := po_some (pe_un un_neg pe_int)
  refine wpAny_Slice (thn (po_none.run pins s1 σ H1 (fun o H2 => o = none ∧ H2 = H1) I1 ⟨rfl, rfl⟩) fun vl s2 ⟨l, H2, I2, pl, el, e2⟩ => ?_)
  subst el e2
  refine thn (po_none.run pins s2 σ H2 (fun o H3 => o = none ∧ H3 = H2) I2 ⟨rfl, rfl⟩) fun vu s3 ⟨u, H3, I3, pu, eu, e3⟩ => ?_
  subst eu e3
  refine thn (one.run pins s3 σ H3 (fun o H4 => o = some (-1) ∧ H4 = H3) I3 ⟨1, rfl, -1, rfl, rfl, rfl⟩) fun vs s4 ⟨o, H4, I4, ps, eo, e4⟩ => ?_
  subst eo e4
  cases pl
  cases pu
  have I5 := I4.kept (t' := s4.toks) fun b ob q => Heap.get?_push_of_some { cls := Value.type "slice", data := Data.fields #[.none, .none, vs] } q
  obtain ⟨T, id, hT, ht, hg⟩ := hr pins _ σ H4 x v vs s4.heap.objs.size Q I5 r1 (Heap.IsSliceOf.new s4.heap .none .none vs) ps q1
  exact tail_any (ops := [v, .ref s4.heap.objs.size]) ht hT hg (by with_unfolding_all rfl)
end
end Own

set_option Elab.async false
set_option maxRecDepth 100000
set_option maxHeartbeats 4000000
set_option linter.unusedVariables false
/-! how large data is: ASCII texts, ints that are not too far, weight, depth -/
namespace Own
open PySem PySem.Spec PyProof.Rows L2
def Asc (z : Str) : Prop := ∀ c ∈ z.cps.toList, c < 128
instance (z : Str) : Decidable (Asc z) := inferInstanceAs (Decidable (∀ c ∈ z.cps.toList, c < 128))
def far (n : Nat) : Nat := 10 ^ 40 + n * 10 ^ 31
mutual
def fine (n : Nat) : PyData → Bool
  | .none => true
  | .bool _ => true
  | .int i => decide (i.natAbs ≤ far n)
  | .str z => decide (Asc z)
  | .list xs => decide (xs.length ≤ 30 + n) && fineAll n xs
  | .tuple xs => decide (xs.length ≤ 30 + n) && fineAll n xs
  | .dict kvs => PyData.leavesShortKv 60 kvs && PyData.showableKv kvs
def fineAll (n : Nat) : List PyData → Bool
  | [] => true
  | x :: xs => fine n x && fineAll n xs
end
structure FD (n W D : Nat) (d : PyData) : Prop where
  fi : fine n d = true
  we : d.weight ≤ W
  de : d.depth ≤ D
structure FA (n W D : Nat) (ds : List PyData) : Prop where
  fi : fineAll n ds = true
  we : PyData.weightAll ds ≤ W
  de : PyData.depthAll ds ≤ D
theorem and_2 {a b : Bool} (h : (a && b) = true) : a = true ∧ b = true := by
  rw [Bool.and_eq_true] at h
  exact h
theorem and_of {a b : Bool} (h : a = true) (k : b = true) : (a && b) = true := by
  rw [h, k]
  rfl
theorem far_mono {n m : Nat} (h : n ≤ m) : far n ≤ far m := Nat.add_le_add_left (Nat.mul_le_mul_right _ h) _
mutual
theorem fine_mono {n m : Nat} (h : n ≤ m) : ∀ {d : PyData}, fine n d = true → fine m d = true
  | .none, _ => rfl
  | .bool _, _ => rfl
  | .int i, e => by
    have e : decide (i.natAbs ≤ far n) = true := e
    exact decide_eq_true (Nat.le_trans (of_decide_eq_true e) (far_mono h))
  | .str _, e => e
  | .list _, e => and_of (decide_eq_true (Nat.le_trans (of_decide_eq_true (and_2 e).1) (Nat.add_le_add_left h _))) (fineAll_mono h (and_2 e).2)
  | .tuple _, e => and_of (decide_eq_true (Nat.le_trans (of_decide_eq_true (and_2 e).1) (Nat.add_le_add_left h _))) (fineAll_mono h (and_2 e).2)
  | .dict _, e => e
theorem fineAll_mono {n m : Nat} (h : n ≤ m) : ∀ {ds : List PyData}, fineAll n ds = true → fineAll m ds = true
  | [], _ => rfl
  | _ :: _, e => by
    have e : (_ && _) = true := e
    rw [Bool.and_eq_true] at e
    show (_ && _) = true
    rw [Bool.and_eq_true]
    exact ⟨fine_mono h e.1, fineAll_mono h e.2⟩
end
theorem FD.mono {n m W W' D D' : Nat} {d : PyData} (f : FD n W D d) (h : n ≤ m) (h1 : W ≤ W') (h2 : D ≤ D') : FD m W' D' d := ⟨fine_mono h f.fi, Nat.le_trans f.we h1, Nat.le_trans f.de h2⟩
theorem FA.mono {n m W W' D D' : Nat} {d : List PyData} (f : FA n W D d) (h : n ≤ m) (h1 : W ≤ W') (h2 : D ≤ D') : FA m W' D' d := ⟨fineAll_mono h f.fi, Nat.le_trans f.we h1, Nat.le_trans f.de h2⟩
theorem FD.tup {n W D : Nat} {ds : List PyData} (f : FA n W D ds) (l : ds.length ≤ 30 + n) : FD n W (D + 1) (.tuple ds) := ⟨and_of (decide_eq_true l) f.fi, f.we, Nat.succ_le_succ f.de⟩
theorem FD.lst {n W D : Nat} {ds : List PyData} (f : FA n W D ds) (l : ds.length ≤ 30 + n) : FD n W (D + 1) (.list ds) := ⟨and_of (decide_eq_true l) f.fi, f.we, Nat.succ_le_succ f.de⟩
theorem FD.inT {n W D : Nat} {ds : List PyData} (f : FD n W (D + 1) (.tuple ds)) : FA n W D ds := ⟨(and_2 f.fi).2, f.we, Nat.le_of_succ_le_succ f.de⟩
theorem FD.wide {n W D : Nat} {ds : List PyData} (f : FD n W D (.tuple ds)) : ds.length ≤ 30 + n := of_decide_eq_true (and_2 f.fi).1
theorem FA.nil {n D : Nat} : FA n 0 D [] := ⟨rfl, Nat.le_refl _, Nat.zero_le _⟩
theorem FA.cons {n W W' D : Nat} {d : PyData} {ds : List PyData} (a : FD n W D d) (b : FA n W' D ds) : FA n (W + 1 + W') D (d :: ds) := by
  refine ⟨?_, ?_, Nat.max_le.mpr ⟨a.de, b.de⟩⟩
  · show (_ && _) = true
    rw [a.fi, b.fi]
    rfl
  · have := a.we
    have := b.we
    show _ + 1 + _ ≤ _
    omega
theorem FA.hd {n W D : Nat} {d : PyData} {ds : List PyData} (f : FA n W D (d :: ds)) : FD n (W - 1) D d := by
  have e : (fine n d && fineAll n ds) = true := f.fi
  rw [Bool.and_eq_true] at e
  have w : d.weight + 1 + PyData.weightAll ds ≤ W := f.we
  exact ⟨e.1, by omega, (Nat.max_le.mp f.de).1⟩
theorem FA.tl {n W D : Nat} {d : PyData} {ds : List PyData} (f : FA n W D (d :: ds)) : FA n W D ds := by
  have e : (fine n d && fineAll n ds) = true := f.fi
  rw [Bool.and_eq_true] at e
  have w : d.weight + 1 + PyData.weightAll ds ≤ W := f.we
  exact ⟨e.2, by omega, (Nat.max_le.mp f.de).2⟩
theorem weight_app : ∀ ds es : List PyData, PyData.weightAll (ds ++ es) = PyData.weightAll ds + PyData.weightAll es
  | [], es => (Nat.zero_add _).symm
  | d :: ds, es => by
    show _ + 1 + PyData.weightAll (ds ++ es) = _ + 1 + PyData.weightAll ds + _
    rw [weight_app]
    omega
theorem fineAll_app {n : Nat} : ∀ {ds es : List PyData}, fineAll n ds = true → fineAll n es = true → fineAll n (ds ++ es) = true
  | [], _, _, b => b
  | _ :: _, _, a, b => by
    have a : (_ && _) = true := a
    rw [Bool.and_eq_true] at a
    show (_ && _) = true
    rw [Bool.and_eq_true]
    exact ⟨a.1, fineAll_app a.2 b⟩
theorem depth_app {D : Nat} : ∀ {ds es : List PyData}, PyData.depthAll ds ≤ D → PyData.depthAll es ≤ D → PyData.depthAll (ds ++ es) ≤ D
  | [], _, _, b => b
  | _ :: _, _, a, b => Nat.max_le.mpr ⟨(Nat.max_le.mp a).1, depth_app (Nat.max_le.mp a).2 b⟩
theorem FA.app {n W W' D : Nat} {ds es : List PyData} (a : FA n W D ds) (b : FA n W' D es) : FA n (W + W') D (ds ++ es) :=
  ⟨fineAll_app a.fi b.fi, by rw [weight_app]; exact Nat.add_le_add a.we b.we, depth_app a.de b.de⟩
theorem FA.parts {n W D : Nat} : ∀ {ds es : List PyData}, FA n W D (ds ++ es) → FA n W D ds ∧ FA n W D es
  | [], es, f => ⟨FA.nil.mono (Nat.le_refl _) (Nat.zero_le _) (Nat.le_refl _), f⟩
  | d :: ds, es, f => by
    have f : FA n W D (d :: (ds ++ es)) := f
    obtain ⟨a, b⟩ := f.tl.parts
    refine ⟨⟨?_, ?_, ?_⟩, b⟩
    · show (_ && _) = true
      rw [f.hd.fi, a.fi]
      rfl
    · have w : PyData.weightAll (d :: (ds ++ es)) ≤ W := f.we
      have e : PyData.weightAll (d :: (ds ++ es)) = d.weight + 1 + PyData.weightAll (ds ++ es) := rfl
      rw [e, weight_app] at w
      show d.weight + 1 + PyData.weightAll ds ≤ W
      omega
    · exact Nat.max_le.mpr ⟨f.hd.de, a.de⟩
theorem FA.take {n W D : Nat} {ds : List PyData} (f : FA n W D ds) (i : Nat) : FA n W D (ds.take i) := by
  have h : FA n W D (ds.take i ++ ds.drop i) := by rw [List.take_append_drop]; exact f
  exact h.parts.1
theorem FA.drop {n W D : Nat} {ds : List PyData} (f : FA n W D ds) (i : Nat) : FA n W D (ds.drop i) := by
  have h : FA n W D (ds.take i ++ ds.drop i) := by rw [List.take_append_drop]; exact f
  exact h.parts.2
theorem FA.rev {n W D : Nat} : ∀ {ds : List PyData}, FA n W D ds → FA n W D ds.reverse
  | [], f => f
  | d :: ds, f => by
    have e : PyData.weightAll (d :: ds) = d.weight + 1 + PyData.weightAll ds := rfl
    have w := f.we
    rw [List.reverse_cons]
    have one : FA n (d.weight + 1) D [d] := (FA.cons (W := d.weight) ⟨f.hd.fi, Nat.le_refl _, f.hd.de⟩ FA.nil).mono (Nat.le_refl _) (by omega) (Nat.le_refl _)
    have r : FA n (PyData.weightAll ds) D ds := ⟨f.tl.fi, Nat.le_refl _, f.tl.de⟩
    exact (r.rev.app one).mono (Nat.le_refl _) (by omega) (Nat.le_refl _)
/-- a list cut at one of its items -/
theorem FA.at {n W D i : Nat} {ds : List PyData} {d : PyData} (f : FA n W D ds) (h : ds[i]? = some d) : FD n d.weight D d ∧ d.weight + 1 ≤ W ∧ FA n (W - d.weight - 1) D (ds.take i ++ ds.drop (i + 1)) := by
  have hi : i < ds.length := (List.getElem?_eq_some_iff.mp h).1
  have hd : ds.drop i = d :: ds.drop (i + 1) := by
    rw [List.drop_eq_getElem_cons hi, (List.getElem?_eq_some_iff.mp h).2]
  have h1 : FA n W D (d :: ds.drop (i + 1)) := by rw [← hd]; exact f.drop i
  have w : PyData.weightAll (ds.take i ++ ds.drop i) ≤ W := by rw [List.take_append_drop]; exact f.we
  rw [hd, weight_app] at w
  have e : PyData.weightAll (d :: ds.drop (i + 1)) = d.weight + 1 + PyData.weightAll (ds.drop (i + 1)) := rfl
  rw [e] at w
  refine ⟨⟨h1.hd.fi, Nat.le_refl _, h1.hd.de⟩, by omega, ⟨fineAll_app (f.take i).fi (f.drop (i + 1)).fi, ?_, depth_app (f.take i).de (f.drop (i + 1)).de⟩⟩
  rw [weight_app]
  omega
theorem FD.get {n W D i : Nat} {ds : List PyData} {d : PyData} (f : FA n W D ds) (h : ds[i]? = some d) : FD n W D d := by
  obtain ⟨a, b, _⟩ := f.at h
  exact a.mono (Nat.le_refl _) (by omega) (Nat.le_refl _)
/-! what repr wants -/
theorem far_lt {n : Nat} (h : n ≤ 1000) : far n < 10 ^ 50 := by
  have : n * 10 ^ 31 ≤ 1000 * 10 ^ 31 := Nat.mul_le_mul_right _ h
  have e : far n = 10 ^ 40 + n * 10 ^ 31 := rfl
  have k : 10 ^ 40 + 1000 * 10 ^ 31 < 10 ^ 50 := by decide +kernel
  omega
theorem int_short {n : Nat} (h : n ≤ 1000) {i : Int} (f : i.natAbs ≤ far n) : (toString i : String).length ≤ 51 := PySem.int_text_length_le10 (k := 50) (by decide) (Nat.lt_of_le_of_lt f (far_lt h))
theorem int_show {n : Nat} (h : n ≤ 1000) {i : Int} (f : i.natAbs ≤ far n) : i.natAbs.log2 < 180 := by
  have l := Nat.lt_of_le_of_lt f (far_lt h)
  by_cases z : i.natAbs = 0
  · rw [z]
    decide
  · rw [Nat.log2_lt z]
    exact Nat.lt_trans l (by decide +kernel)
mutual
theorem fine_leaves {n : Nat} (h : n ≤ 1000) : ∀ {d : PyData}, fine n d = true → d.leavesShort 60 = true ∧ d.showable = true
  | .none, _ => ⟨rfl, rfl⟩
  | .bool _, _ => ⟨rfl, rfl⟩
  | .int i, e => by
    have e : decide (i.natAbs ≤ far n) = true := e
    have e := of_decide_eq_true e
    refine ⟨decide_eq_true ?_, decide_eq_true (Nat.lt_trans (int_show h e) (by decide))⟩
    show (Str.ofString (toString i)).length ≤ 60
    rw [PySem.ofString_length]
    exact Nat.le_trans (int_short h e) (by decide)
  | .str z, e => by
    have e : decide (Asc z) = true := e
    refine ⟨List.all_eq_true.mpr fun c hc => decide_eq_true ?_, rfl⟩
    exact Nat.lt_trans (of_decide_eq_true e c hc) (by decide)
  | .list _, e => fineAll_leaves h (and_2 e).2
  | .tuple _, e => fineAll_leaves h (and_2 e).2
  | .dict _, e => by
    have e : (_ && _) = true := e
    rw [Bool.and_eq_true] at e
    exact e
theorem fineAll_leaves {n : Nat} (h : n ≤ 1000) : ∀ {ds : List PyData}, fineAll n ds = true → PyData.leavesShortAll 60 ds = true ∧ PyData.showableAll ds = true
  | [], _ => ⟨rfl, rfl⟩
  | _ :: _, e => by
    have e : (_ && _) = true := e
    rw [Bool.and_eq_true] at e
    obtain ⟨a, b⟩ := fine_leaves h e.1
    obtain ⟨c, d⟩ := fineAll_leaves h e.2
    refine ⟨?_, ?_⟩
    · show (_ && _) = true
      rw [a, c]
      rfl
    · show (_ && _) = true
      rw [b, d]
      rfl
end
theorem FD.rep {n W D : Nat} {d : PyData} (f : FD n W D d) (h : n ≤ 1000) (h1 : W ≤ 200000) (h2 : D ≤ 60) : RepD d := by
  obtain ⟨a, b⟩ := fine_leaves h f.fi
  refine ⟨b, Nat.le_trans f.de h2, ?_⟩
  have := PyData.shown_le 60 (by decide) d a
  have := f.we
  rw [sizeLine_eq]
  omega
/-! texts that stay ASCII -/
theorem asc_ofNat (l : List Nat) (h : l.all (fun c => decide (c < 128)) = true) : ∀ c ∈ l, c < 128 := fun c hc => of_decide_eq_true (List.all_eq_true.mp h c hc)
theorem asc_app {a b : Str} (h : Asc a) (k : Asc b) : Asc (a ++ b) := fun c hc => by
  have e : (a ++ b).cps.toList = a.cps.toList ++ b.cps.toList := by
    show (a.cps ++ b.cps).toList = _
    simp
  rw [e] at hc
  exact (List.mem_append.mp hc).elim (h c) (k c)
theorem asc_cut {z : Str} (h : Asc z) (lo hi : Option Int) : Asc (cutS z lo hi) := fun c hc => by
  have hc : c ∈ ((z.cps.toList.drop (HT.sIx z.length 0 lo)).take (HT.sIx z.length z.length hi - HT.sIx z.length 0 lo)).toArray.toList := hc
  exact h c (List.mem_of_mem_drop (List.mem_of_mem_take hc))
theorem asc_upper {z : Str} (h : Asc z) : Asc (Txt.upper z) ∧ (Txt.upper z).length = z.length := by
  rw [PyProof.Rows.upper_ascii h]
  refine ⟨fun c hc => ?_, by show (z.cps.map up1).size = z.cps.size; exact Array.size_map ..⟩
  have hc : c ∈ (z.cps.map up1).toList := hc
  rw [Array.toList_map] at hc
  obtain ⟨x, hx, rfl⟩ := List.mem_map.mp hc
  have := h x hx
  unfold up1
  split <;> omega
theorem fold_mem : ∀ (k : Nat) (cs acc : Array Nat) (c : Nat), c ∈ ((List.replicate k cs).foldl (· ++ ·) acc).toList → c ∈ acc.toList ∨ c ∈ cs.toList
  | 0, cs, acc, c, h => .inl h
  | k + 1, cs, acc, c, h => by
    rw [List.replicate_succ, List.foldl_cons] at h
    rcases fold_mem k cs (acc ++ cs) c h with h | h
    · rw [Array.toList_append] at h
      exact List.mem_append.mp h
    · exact .inr h
theorem asc_mul {z : Str} (h : Asc z) (k : Int) : Asc (Txt.mul z k) := by
  unfold Txt.mul
  split
  · intro c hc
    cases hc
  · split
    · exact h
    · intro c hc
      rcases fold_mem _ _ _ c hc with hc | hc
      · simp at hc
      · exact h c hc
theorem asc_rev {z : Str} (h : Asc z) : Asc (revS z) ∧ (revS z).length = z.length := by
  refine ⟨fun c hc => ?_, step_rev_len z 0⟩
  have e : (revS z).cps.toList = _ := step_rev_list z 0
  rw [e] at hc
  obtain ⟨k, hk, rfl⟩ := List.mem_map.mp hc
  have hk : k < z.length := List.mem_range.mp hk
  have l : z.length = z.cps.size := rfl
  refine h _ ?_
  rw [Array.getD, dif_pos (show z.length - 1 - k < z.cps.size by omega)]
  exact Array.mem_toList_iff.mpr (Array.getElem_mem _)
theorem asc_int (i : Int) : Asc (Str.ofString (toString i)) := fun c hc => by
  rw [signs_ofString] at hc
  obtain ⟨x, hx, rfl⟩ := List.mem_map.mp hc
  exact int_ascii i x hx
theorem asc_ok {z : Str} (h : Asc z) : PyData.strOk z = true := by
  unfold PyData.strOk
  rw [← Array.all_toList]
  exact List.all_eq_true.mpr fun c hc => decide_eq_true (Nat.lt_trans (h c hc) (by decide))
theorem FD.text {n W D : Nat} {z : Str} (h : Asc z) (l : z.length ≤ W) : FD n W D (.str z) := ⟨decide_eq_true h, l, Nat.zero_le _⟩
theorem FD.num {n W D : Nat} {i : Int} (h : i.natAbs ≤ far n) (hn : n ≤ 1000) (l : 200 ≤ W) : FD n W D (.int i) := by
  refine ⟨decide_eq_true h, ?_, Nat.zero_le _⟩
  have := int_show hn h
  show (if i == 0 then 0 else i.natAbs.log2 + 1) ≤ W
  split <;> omega
end Own
namespace Own
open PySem PySem.Spec PyProof.Rows L2
theorem op_inQK {X : Cx} {K : PySem.W.Frag} (h : X.K = K) (hu : X.A.units + 64 < cLine) : OpR X (compareOp .In) (rInQ K) := by
  subst h
  exact op_inQ hu
theorem call_reprQ' {X : Cx} {K : PySem.W.Frag} (h : X.K = K) (qt : Quiet X.A) (hu : X.A.units + 64 < cLine) (h1 : One K) : CallR X (.builtin "repr") rReprQ := by
  subst h
  exact call_reprQ qt hu h1
end Own

set_option Elab.async false
set_option maxRecDepth 100000
set_option maxHeartbeats 4000000
set_option linter.unusedVariables false
/-! comprehensions with two fors, whatever they make -/
namespace Own
open PySem PySem.Spec PyProof.Rows L2
/-- e goes through two sources, and tells emit of each pair -/
structure Two (e t0 i0 : Expr) (c0 : List Expr) (t1 i1 : Expr) (c1 : List Expr) (emit : Value → Env → Sem Unit) : Prop where
  out : ∀ it acc env, compTurn e 0 it acc env = (do
    standAt i0.pos
    match ← pyNext it with
    | none => pure (.done .next)
    | some v =>
      letOwnedTupleGo t0 it v
      assign t0 env v
      let mut go := true
      for c in c0 do
        if go then go ← isTrue c env (eval c env)
      if go then
        let y ← eval i1 env
        standAt i1.pos
        let y ← foldedSetIterable i1 env y
        let _ ← runOwn (.compStart e 1 (← holding [y] (pyIter y)) acc env) env
      again (.compLoop e 0 it acc env))
  inn : ∀ it acc env, compTurn e 1 it acc env = (do
    standAt i1.pos
    match ← pyNext it with
    | none => pure (.done .next)
    | some v =>
      letOwnedTupleGo t1 it v
      assign t1 env v
      let mut go := true
      for c in c1 do
        if go then go ← isTrue c env (eval c env)
      if go then
        emit acc env
      again (.compLoop e 1 it acc env))
  /-- the loop's node asks for no room of its own, and runs the turn -/
  und : ∀ (A : Around) d it acc env, A.under (.compLoop e d it acc env) = A
  den : ∀ (P : Program) (w : World) d it acc env, (model P w).den (.compLoop e d it acc env) = (compTurn e d it acc env).onRaise fun x => do noteFrame x env; theTreesLotGoes x
  sund : ∀ (A : Around) d it acc env, A.under (.compStart e d it acc env) = A
  sden : ∀ (P : Program) (w : World) d it acc env, (model P w).den (.compStart e d it acc env) = (compStart e d it acc env).onRaise fun x => do noteFrame x env; standAt theWindowsPlace
  cl0 : (clausesOf e)[0]? = some ⟨t0, i0, c0, 0⟩
  cl1 : (clausesOf e)[1]? = some ⟨t1, i1, c1, 0⟩
/-- {k: v for .. for ..} -/
def emitD (kx vx : Expr) : Value → Env → Sem Unit := fun acc env => eval kx env >>= fun a => holding [a] (eval vx env) >>= fun b =>
  match acc with
  | .ref d => standAt { kx.pos with endLine := vx.pos.endLine, endCol := vx.pos.endCol } >>= fun _ => holding [a, b] (dictSet d a b)
  | _ => unsupported "internal:dictcomp"
theorem two_dict (kx vx t0 i0 t1 i1 : Expr) (c0 c1 : List Expr) (sc : Scope) (pos : Pos) : Two (.DictComp kx vx [⟨t0, i0, c0, 0⟩, ⟨t1, i1, c1, 0⟩] sc pos) t0 i0 c0 t1 i1 c1 (emitD kx vx) :=
  ⟨fun _ _ _ => by rfl, fun _ _ _ => by rfl, fun _ _ _ _ _ => by rfl, fun _ _ _ _ _ _ => by rfl, fun _ _ _ _ _ => by rfl, fun _ _ _ _ _ _ => by rfl, rfl, rfl⟩
section
variable {P : Program} {w : World} {A : Around} {R : Result → Shared → Prop} {e t0 i0 t1 i1 : Expr} {c0 c1 : List Expr} {emit : Value → Env → Sem Unit} {it acc : Value} {env : Env}
/-- an error here is the loop's -/
abbrev Bad (P : Program) (w : World) (A : Around) (env : Env) (R : Result → Shared → Prop) : Value → Shared → Prop := notedBy (model P w) A env fun x s' => R (.error x) s'
abbrev Tests (env : Env) (cs : List Expr) : Sem Bool := forIn cs true fun c r => if r = true then do let ok ← isTrue c env (eval c env); pure (ForInStep.yield ok) else pure (ForInStep.yield r)
/-- the outer loop -/
theorem two_out (W : Two e t0 i0 c0 t1 i1 c1 emit) (fold : ∀ x, foldedSetIterable i1 env x = pure x) (J : Nat → Shared → Prop)
    (turn : ∀ n s, J n s → wpAny (model P w) A (pyNext it) (fun r s1 => match r with
      | none => R (.ok .next) s1
      | some v => wpAny (model P w) A (letOwnedTupleGo t0 it v) (fun _ s2 => wpAny (model P w) A (assign t0 env v) (fun _ s3 => wpAny (model P w) A (Tests env c0) (fun ok s4 =>
          if ok = true then wpAny (model P w) A (eval i1 env) (fun x s5 => wpAny (model P w) A (pyIter x) (fun jt s6 =>
            codeAny (model P w) A (.compStart e 1 jt acc env) (fun r s' => match r with
              | .ok _ => ∃ m, m < n ∧ J m s'
              | .error _ => False) s6) (Bad P w A env R) s5) (Bad P w A env R) s4
          else ∃ m, m < n ∧ J m s4) (Bad P w A env R) s3) (Bad P w A env R) s2) (Bad P w A env R) s1) (Bad P w A env R) s)
    (n : Nat) {s : Shared} (start : J n s) : codeAny (model P w) A (.compLoop e 0 it acc env) R s := by
  refine codeAny_loop rfl J (fun n z hJ => ?_) n start
  rw [W.und, W.den]
  refine wpAny_noted ?_
  rw [W.out]
  refine wpAny_bind (wpAny_standAt (wpAny_bind (wpAny_mono (turn n z hJ) (fun r z1 k1 => ?_) fun _ _ y => y)))
  match r, k1 with
  | none, k1 => exact wpAny_pure k1
  | some v, k1 =>
    refine wpAny_bind (wpAny_mono k1 (fun _ z2 k2 => wpAny_bind (wpAny_mono k2 (fun _ z3 k3 => wpAny_bind (wpAny_mono k3 (fun ok z4 k4 => ?_) fun _ _ y => y)) fun _ _ y => y)) fun _ _ y => y)
    match ok, k4 with
    | false, k4 => exact wpAny_pure ⟨rfl, k4⟩
    | true, k4 =>
      refine wpAny_bind (wpAny_mono k4 (fun x z5 k5 => wpAny_bind (wpAny_standAt (wpAny_bind (wpAny_of_eq (fold x) (wpAny_bind (wpAny_holding (wpAny_mono k5 (fun jt z6 k6 => wpAny_bind (wpAny_runOwn ?_)) fun _ _ y => y))))))) fun _ _ y => y)
      rw [Around.mark_none]
      refine codeAny_mono k6 fun r z7 k7 => ?_
      match r, k7 with
      | .ok f, k7 =>
        first
          | exact wpAny_pure ⟨rfl, k7⟩
          | exact wpAny_bind (wpAny_pure (wpAny_pure ⟨rfl, k7⟩))
/-- the inner loop -/
theorem two_in (W : Two e t0 i0 c0 t1 i1 c1 emit) (J : Nat → Shared → Prop)
    (turn : ∀ n s, J n s → wpAny (model P w) A (pyNext it) (fun r s1 => match r with
      | none => R (.ok .next) s1
      | some v => wpAny (model P w) A (letOwnedTupleGo t1 it v) (fun _ s2 => wpAny (model P w) A (assign t1 env v) (fun _ s3 => wpAny (model P w) A (Tests env c1) (fun ok s4 =>
          if ok = true then wpAny (model P w) A (emit acc env) (fun _ s5 => ∃ m, m < n ∧ J m s5) (Bad P w A env R) s4
          else ∃ m, m < n ∧ J m s4) (Bad P w A env R) s3) (Bad P w A env R) s2) (Bad P w A env R) s1) (Bad P w A env R) s)
    (n : Nat) {s : Shared} (start : J n s) : codeAny (model P w) A (.compLoop e 1 it acc env) R s := by
  refine codeAny_loop rfl J (fun n z hJ => ?_) n start
  rw [W.und, W.den]
  refine wpAny_noted ?_
  rw [W.inn]
  refine wpAny_bind (wpAny_standAt (wpAny_bind (wpAny_mono (turn n z hJ) (fun r z1 k1 => ?_) fun _ _ y => y)))
  match r, k1 with
  | none, k1 => exact wpAny_pure k1
  | some v, k1 =>
    refine wpAny_bind (wpAny_mono k1 (fun _ z2 k2 => wpAny_bind (wpAny_mono k2 (fun _ z3 k3 => wpAny_bind (wpAny_mono k3 (fun ok z4 k4 => ?_) fun _ _ y => y)) fun _ _ y => y)) fun _ _ y => y)
    match ok, k4 with
    | false, k4 => exact wpAny_pure ⟨rfl, k4⟩
    | true, k4 =>
      exact wpAny_bind (wpAny_mono k4 (fun _ z5 k5 => wpAny_pure ⟨rfl, k5⟩) fun _ _ y => y)
/-- a source's start: its iterator as it is, or asked once more -/
theorem two_start (W : Two e t0 i0 c0 t1 i1 c1 emit) {d : Nat} {t i : Expr} {c : List Expr} (cl : (clausesOf e)[d]? = some ⟨t, i, c, 0⟩) {s : Shared} (h0 : codeAny (model P w) A (.compLoop e d it acc env) R s)
    (h : wpAny (model P w) A (pyIter it) (fun jt s' => codeAny (model P w) A (.compLoop e d jt acc env) R s') (notedBy (model P w) A env fun x s' => R (.error x) s') s) : codeAny (model P w) A (.compStart e d it acc env) R s := by
  refine codeAny_of_tree ?_
  rw [W.sund, W.sden]
  refine wpAny_notedAt ?_
  unfold compStart
  rw [cl]
  show wpAny _ _ (ask >>= _) _ _ s; refine wpAny_bind (wpAny_askSetting (wpAny_ite ?_))
  split
  · first
      | exact wpAny_pure ⟨rfl, h0⟩
      | exact wpAny_bind (wpAny_pure (wpAny_pure ⟨rfl, h0⟩))
  · refine wpAny_bind (wpAny_rule (wpAny_bind (wpAny_standAt ?_)))
    first
      | exact wpAny_bind (wpAny_mono h (fun jt s' k => wpAny_pure ⟨rfl, k⟩) fun _ _ y => y)
      | exact wpAny_bind (wpAny_bind (wpAny_mono h (fun jt s' k => wpAny_pure ⟨rfl, k⟩) fun _ _ y => y))
end
/-! one source gone through inside a block -/
/-- a loop over S from st on: out holds where it stops; a turn with x has to reach N -/
def LoopOk (S : It) (st : Hp) (out : Hp → Prop) (body : (Hp → Prop) → V → Hp → Prop) : Prop := ∃ G : Nat → Nat → Hp → Prop, (∃ m, G 0 m st) ∧
  ∀ i m H, G i m H → (S.stop i H ∧ out H) ∨ (S.go i H ∧ ∃ N : Hp → Prop, (∀ K, N K → ∃ k, k < m ∧ G (i + 1) k K) ∧ ∀ x K, S.yld i H x K → body N x K)
/-- where the loop stands -/
def StAt (X : Cx) (pn : List (Addr × Obj)) (σ : L2.St) (fp : List Addr) (tn : Nat → Heap → Prop) (G : Nat → Nat → Hp → Prop) (n : Nat) (s : Shared) : Prop :=
  ∃ i H, Inv X pn σ H s ∧ tn i s.heap ∧ (∀ b ∈ fp, H b = none) ∧ G i n H
/-- behind a turn: what is known of the slots is what was known at its start -/
def Back (σ τ : L2.St) : Prop := σ.length = τ.length ∧ ∀ (j : Nat) v, σ[j]? = some (some v) → τ[j]? = some (some v)
section
variable {X : Cx} {pn : List (Addr × Obj)} {σ : L2.St} {fp : List Addr} {tn : Nat → Heap → Prop} {G : Nat → Nat → Hp → Prop} {S : It} {tg : Expr} {it : Addr} {out : Hp → Prop} {body : (Hp → Prop) → V → Hp → Prop}
theorem next_of (hc : X.calm = true) (T : Turn X.prog X.w X.K tg S fp it tn) (ok : ∀ {τ : L2.St} {K : Hp} {z : Shared}, Inv X pn τ K z → (∀ b ∈ fp, K b = none) → ∀ b ∈ fp, FpOk X pn K b)
    (go : ∀ i m H, G i m H → (S.stop i H ∧ out H) ∨ (S.go i H ∧ ∃ N : Hp → Prop, (∀ K, N K → ∃ k, k < m ∧ G (i + 1) k K) ∧ ∀ x K, S.yld i H x K → body N x K))
    {n : Nat} {s : Shared} {R : Shared → Prop} (h : StAt X pn σ fp tn G n s) (hend : ∀ z K, Inv X pn σ K z → out K → R z) :
    wpAny (model X.prog X.w) X.A (pyNext (.ref it)) (fun r z => match r with
      | none => R z
      | some u => wpAny (model X.prog X.w) X.A (letOwnedTupleGo tg (.ref it) u) (fun _ z2 => ∃ (N : Hp → Prop) (x : V) (K : Hp), Inv X (pn ++ pinsAt fp z2.heap) σ K z2 ∧ RelV x u ∧ body N x K ∧
          ∀ (τ : L2.St) (z3 : Shared) (K3 : Hp), Inv X (pn ++ pinsAt fp z2.heap) τ K3 z3 → Back σ τ → N K3 → ∃ m, m < n ∧ StAt X pn σ fp tn G m z3) (fun _ _ => False) z) (fun _ _ => False) s := by
  obtain ⟨i, H, I, st, nf, g⟩ := h
  rcases go i n H g with ⟨stop, o⟩ | ⟨gg, N, less, step⟩
  · refine thnF (T.done X rfl rfl rfl hc i pn s σ H _ I (ok I nf) st stop) fun r z k => ?_
    obtain ⟨rfl, I2⟩ := k
    exact hend z H I2 o
  · refine thnF (T.item X rfl rfl rfl hc i pn s σ H _ I (ok I nf) st gg) fun r z k => ?_
    obtain ⟨u, rfl, k⟩ := k
    refine thnF k fun _ z2 k2 => ?_
    obtain ⟨x, K, I2, ru, y, st2, nf2⟩ := k2
    refine ⟨N, x, K, I2.pinned (ok I2 nf2) (T.obj _ _ st2), ru, step x K y, fun τ z3 K3 I3 bk nk => ?_⟩
    obtain ⟨m, lm, gm⟩ := less K3 nk
    have still : ∀ b ∈ fp, ∀ o, z2.heap.get? b = some o → z3.heap.get? b = some o ∧ K3 b = none := fun b hb o e => by
      have q := I3.pin (b, o) (List.mem_append_right _ (List.mem_append_right _ (mem_pinsAt hb e)))
      exact ⟨q.1, q.2.1⟩
    refine ⟨m, lm, i + 1, K3, I3.unpinned.weak bk.1 bk.2, T.keep _ _ _ st2 (fun b hb o e => (still b hb o e).1), fun b hb => ?_, gm⟩
    obtain ⟨ob, e, _⟩ := T.obj _ _ st2 b hb
    exact (still b hb ob e).2
end
/-! the whole of it -/
/-- what a turn's end does with the collected one -/
abbrev TEm := Addr → L2.St → Hp → (Hp → Prop) → Prop
structure Emits (Y : Cx) (emit : Value → Env → Sem Unit) (em : TEm) : Prop where
  run : ∀ (D : Addr) (pn : List (Addr × Obj)) (s : Shared) (σ : L2.St) (H : Hp) (N : Hp → Prop), Inv Y pn σ H s → em D σ H N → wpAny (model Y.prog Y.w) Y.A (emit (.ref D) Y.env) (fun _ z => ∃ K, Inv Y pn σ K z ∧ N K) Y.xe s
/-- p, in whichever block of scope -/
abbrev InBlk (X : Cx) (scope : Scope) (p : Cx → Prop) : Prop := ∀ (s : Shared) (H : Hp) (C : Addr) (cl : List (Str × Addr)) (fp : List Addr), p (X.blk s H scope (compEnvC scope cl C X.env) fp)
/-- two fors: o0 is the new one while nothing is in it -/
def tTwo (o0 : HO) (wi : TI) (g : TG) (tt : TT) (wj : TI) (gj : TG) (tj : TT) (em : TEm) (vs vj : List Nat) : TE := fun σ H Q => wi σ H fun S H1 => ∀ D, H1 D = none → LoopOk S (upd H1 D o0) (Q (.ref D)) fun N x K =>
  g x (wipe σ vs) K fun σ2 H2 => wipe σ2 vs = wipe σ vs ∧ tt σ2 H2 fun b H3 => if b = true then wj σ2 H3 fun S1 H4 => LoopOk S1 H4 N fun N1 x1 K1 =>
    gj x1 (wipe σ2 vj) K1 fun σ3 H5 => wipe σ3 vj = wipe σ2 vj ∧ tj σ3 H5 fun b1 H6 => if b1 = true then em D σ3 H6 N1 else N1 H6
  else N H3
theorem back_of {σ τ : L2.St} {vs : List Nat} (h : wipe τ vs = wipe σ vs) : Back (wipe σ vs) τ :=
  ⟨by rw [← h, wipe_length], fun j v q => by rw [← h] at q; exact (wipe_some q).1⟩
theorem Back.inner {σ τ : L2.St} {vs vj : List Nat} (h : wipe τ vs = wipe σ vs) (hv : ∀ i ∈ vj, i ∈ vs) : Back (wipe σ vs) (wipe τ vj) :=
  ⟨by rw [← h, wipe_length, wipe_length], fun j v q => by
    rw [← h] at q
    obtain ⟨q1, q2⟩ := wipe_some q
    rw [wipe_out fun z => q2 (hv j z)]
    exact q1⟩
section
variable {X : Cx}
/-- both loops inside the block Y -/
theorem two_loops {Y : Cx} {e t0 i0 t1 i1 : Expr} {c0 c1 : List Expr} {emit : Value → Env → Sem Unit} {g gj : TG} {tt tj : TT} {wj : TI} {em : TEm} {vs vj : List Nat} {σ : L2.St} {D : Addr} {it : Addr} {fp : List Addr} {tn : Nat → Heap → Prop} {S : It} {H : Hp} {s : Shared} {R : Result → Shared → Prop} {out : Hp → Prop}
    (W : Two e t0 i0 c0 t1 i1 c1 emit) (hc : Y.calm = true) (xe : Y.xe = fun _ _ => False) (pn0 : Y.pn = []) (fpe : ∀ b ∈ fp, b ∈ Y.ex) (hv : ∀ i ∈ vj, i ∈ vs) (T : Turn Y.prog Y.w Y.K t0 S fp it tn)
    (pg : PG Y t0 g) (pt : PTs Y c0 tt) (pi : PI Y t1 i1 wj) (pgj : PG Y t1 gj) (ptj : PTs Y c1 tj) (pm : Emits Y emit em) (fold : ∀ x, foldedSetIterable i1 Y.env x = pure x)
    (I : Inv Y [] (wipe σ vs) H s) (st : tn 0 s.heap) (nf : ∀ b ∈ fp, H b = none)
    (h : LoopOk S H out fun N x K => g x (wipe σ vs) K fun σ2 H2 => wipe σ2 vs = wipe σ vs ∧ tt σ2 H2 fun b H3 => if b = true then wj σ2 H3 fun S1 H4 => LoopOk S1 H4 N fun N1 x1 K1 =>
      gj x1 (wipe σ2 vj) K1 fun σ3 H5 => wipe σ3 vj = wipe σ2 vj ∧ tj σ3 H5 fun b1 H6 => if b1 = true then em D σ3 H6 N1 else N1 H6 else N H3)
    (hend : ∀ z K, Inv Y [] (wipe σ vs) K z → out K → R (.ok .next) z) : codeAny (model Y.prog Y.w) Y.A (.compLoop e 0 (.ref it) (.ref D) Y.env) R s := by
  obtain ⟨G, ⟨m0, g0⟩, go⟩ := h
  refine two_out W fold (StAt Y [] (wipe σ vs) fp tn G) (fun n z hz => ?_) m0 ⟨0, H, I, st, nf, g0⟩
  have ok : ∀ {τ : L2.St} {K : Hp} {z : Shared}, Inv Y [] τ K z → (∀ b ∈ fp, K b = none) → ∀ b ∈ fp, FpOk Y [] K b := fun {τ K z} I' hn b hb =>
    ⟨hn b hb, (I'.ok.exf b (fpe b hb)).1, I'.ok.exfs b (fpe b hb), .inl (fpe b hb), fun x c q => (I'.ok.exf b (fpe b hb)).2 x c q, fun p hp => absurd (show p ∈ Y.pn ++ [] from hp) (by rw [pn0]; simp)⟩
  refine thnF (next_of hc T ok go hz (R := R (.ok .next)) hend) fun r z1 k1 => ?_
  match r, k1 with
  | none, k1 => exact k1
  | some u, k1 =>
    refine thnF k1 fun _ z2 k2 => ?_
    obtain ⟨N, x, K, I2, ru, bd, again⟩ := k2
    have pgr := pg.run _ z2 _ K x u _ I2 ru bd
    rw [xe] at pgr
    refine thnF pgr fun _ z3 k3 => ?_
    obtain ⟨σ3, H3, I3, w3, q3⟩ := k3
    have ptr := pt.run _ z3 σ3 H3 _ I3 q3
    rw [xe] at ptr
    refine thnF ptr fun b z4 k4 => ?_
    obtain ⟨H4, I4, q4⟩ := k4
    cases b with
    | false =>
      simp only [Bool.false_eq_true, if_false] at q4 ⊢
      exact again σ3 z4 H4 I4 (back_of w3) q4
    | true =>
      simp only [if_true] at q4 ⊢
      have pir := pi.run _ z4 σ3 H4 _ I4 q4
      rw [xe] at pir
      refine thnF pir fun xv z5 k5 => thnF k5 fun jv z6 k6 => ?_
      obtain ⟨it1, fp1, tn1, S1, H6, rfl, I6, T1, st6, f6, G1, ⟨m1, g1⟩, go1⟩ := k6
      have inner : codeAny (model Y.prog Y.w) Y.A (.compLoop e 1 (.ref it1) (.ref D) Y.env) (fun r s' => match r with
          | .ok _ => ∃ m, m < n ∧ StAt Y [] (wipe σ vs) fp tn G m s'
          | .error _ => False) z6 := by
        refine two_in W (StAt Y ([] ++ pinsAt fp z2.heap) (wipe σ3 vj) fp1 tn1 G1) (fun k z hz => ?_) m1 ⟨0, H6, I6.weak (wipe_length _ _) (fun j v q => (wipe_some q).1), st6, fun b hb => (f6 b hb).1, g1⟩
        refine thnF (next_of hc T1 (fun {τ K z} I' hn b hb => ⟨hn b hb, (f6 b hb).2⟩) go1 hz (R := fun s' => ∃ m, m < n ∧ StAt Y [] (wipe σ vs) fp tn G m s') fun z7 K7 I7 nx => again _ z7 K7 I7 (Back.inner w3 hv) nx) fun r z7 k7 => ?_
        match r, k7 with
        | none, k7 => exact k7
        | some u1, k7 =>
          refine thnF k7 fun _ z8 k8 => ?_
          obtain ⟨N1, x1, K1, I8, ru1, bd1, again1⟩ := k8
          have pgr1 := pgj.run _ z8 _ K1 x1 u1 _ I8 ru1 bd1
          rw [xe] at pgr1
          refine thnF pgr1 fun _ z9 k9 => ?_
          obtain ⟨σ9, H9, I9, w9, q9⟩ := k9
          have ptr1 := ptj.run _ z9 σ9 H9 _ I9 q9
          rw [xe] at ptr1
          refine thnF ptr1 fun b1 z10 k10 => ?_
          obtain ⟨H10, I10, q10⟩ := k10
          cases b1 with
          | false =>
            simp only [Bool.false_eq_true, if_false] at q10 ⊢
            exact again1 σ9 z10 H10 I10 (back_of w9) q10
          | true =>
            simp only [if_true] at q10 ⊢
            have pmr := pm.run D _ z10 σ9 H10 N1 I10 q10
            rw [xe] at pmr
            refine thnF pmr fun _ z11 k11 => ?_
            obtain ⟨H11, I11, q11⟩ := k11
            exact again1 σ9 z11 H11 I11 (back_of w9) q11
      exact two_start W W.cl1 inner (T1.self Y.A 0 _ _ _ st6 inner)
end
/-- d[k] = v by a comprehension: a name, a number, or a tuple of such -/
theorem put_at {X : Cx} {pn : List (Addr × Obj)} {σ : L2.St} {H H1 : Hp} {s : Shared} {A : Around} {E : Value → Shared → Prop} {D : Addr} {y v : V} {u r : Value} {Q : Unit → Shared → Prop} (room : A.units < cLine) (I : Inv X pn σ H s) (p : DPut H D y v H1) (ru : RelV y u) (rv : RelV v r)
    (h : ∀ z, Inv X pn σ H1 z → Q () z) : wpAny (model X.prog X.w) A (dictSet D u r) Q E s := by
  rcases p with ⟨kvs, k, hD, rfl, hz, rfl⟩ | ⟨kvs, k, b, hD, rfl, hb, hz, rfl⟩
  · obtain ⟨z, hd, vs, rel, dd⟩ := dk_of I.hok hD
    have lz : vs.length ≤ sizeLine := rel.length ▸ z
    refine wpAny_dictSet_pairs (hsz := lz) (kV_is ru) dd fun h' d2 same => h _ (d_write I (hD ▸ True.intro) same (let ⟨q, _, _, hq, _⟩ := d2; ⟨q, hq⟩) (dk_new ?_ hd (rel.put k rv) d2))
    have := length_putK kvs k v
    omega
  · cases (show u = Value.ref b from ru)
    obtain ⟨z, hd, xs, rel, dd⟩ := dt_of I.hok hD
    have lz : xs.length ≤ sizeLine := Paired.length rel ▸ z
    refine wpAny_dictSet_heap (hsz := lz) (show A.units < cLine from room) (key_of I.hok hb) dd fun h' d2 same => h _ ?_
    obtain ⟨q, es, ep, hq, e2, e3, e4, _, e5⟩ := d2
    refine d_write I (hD ▸ True.intro) same ⟨q, hq⟩ ⟨?_, hd, _, (rel.put k hb rv).keeps fun c ys ec => (upd_ne (ne_of ec hD (fun z => nomatch z))).trans ec, q, es, ep, hq, e2, e3, e4, e5⟩
    have := length_putK kvs k v
    omega
/-- k: v, put into the new dict -/
def emPut (tk tv : TE) : TEm := fun D σ H N => tk σ H fun y H1 => tv σ H1 fun v H2 => ∃ H3, DPut H2 D y v H3 ∧ N H3
theorem emits_dict {Y : Cx} {kx vx : Expr} {tk tv : TE} (room : Y.A.units < cLine) (pk : PE Y kx tk) (pv : PE Y vx tv) : Emits Y (emitD kx vx) (emPut tk tv) := by
  refine ⟨fun D pn s σ H N I h => ?_⟩
  unfold emitD
  refine wpAny_bind (wpAny_mono (pk.run _ s σ H _ I h) (fun u s1 k1 => ?_) fun _ _ y => y)
  obtain ⟨y, H1, I1, r1, h1⟩ := k1
  refine wpAny_bind (wpAny_holding (wpAny_mono (pv.run _ s1 σ H1 _ I1 h1) (fun r s2 k2 => ?_) fun _ _ y => y))
  obtain ⟨v, H2, I2, r2, H3, p, n3⟩ := k2
  exact wpAny_bind (wpAny_standAt (wpAny_holding (put_at room I2 p r1 r2 fun z Iz => ⟨H3, Iz, n3⟩)))
section
variable {X : Cx}
theorem two_core {pn : List (Addr × Obj)} {s : Shared} {σ : L2.St} {H : Hp} {Q : VK} {e t0 i0 t1 i1 : Expr} {c0 c1 : List Expr} {emit : Value → Env → Sem Unit} {g gj : TG} {tt tj : TT} {wi wj : TI} {em : TEm} {scope : Scope} {own : List (Str × Nat)} {vj : List Nat} {pos : Pos} {o0 : HO} {use : Option (Value → Sem Unit)} {Qf : Value → Shared → Prop}
    (W : Two e t0 i0 c0 t1 i1 c1 emit) (two : clausesOf e = [⟨t0, i0, c0, 0⟩, ⟨t1, i1, c1, 0⟩]) (new : ∀ {P : Program} {w : World} {H : Hp} (h : Heap), sysModules < h.objs.size → ObjOk P w H (h.push { cls := .type "dict", data := .dict #[] }) h.objs.size o0)
    (hc : X.calm = true) (hN : X.N.Nodup) (I : Inv X pn σ H s) (hi : PI X t0 i0 wi) (ok : BlkOk X.N X.env.scope scope own) (hv : ∀ i ∈ vj, i ∈ own.map (·.2))
    (pg : InBlk X scope (PG · t0 g)) (pt : InBlk X scope (PTs · c0 tt)) (pi : InBlk X scope (PI · t1 i1 wj)) (pgj : InBlk X scope (PG · t1 gj)) (ptj : InBlk X scope (PTs · c1 tj)) (pm : InBlk X scope (Emits · emit em))
    (f0 : ∀ x, foldedSetIterable i0 X.env x = pure x) (f1 : ∀ env x, foldedSetIterable i1 env x = pure x) (h : tTwo o0 wi g tt wj gj tj em (own.map (·.2)) vj σ H Q)
    (hend : ∀ D C z m K, Inv X pn σ K z → Q (.ref D) K → z.heap.Ns C m → FpOk X pn K C → compPost (model X.prog X.w) X.A X.xe use Qf (.ref D) C (.ok .next) z) :
    wpAny (model X.prog X.w) X.A (comprehension e scope X.env pos newDict false (eval i0 X.env) use) Qf X.xe s := by
  have hf : ∀ y ∈ scope.names, y.2 = .free → ∃ c, X.env.cells.lookup y.1 = some c := fun y hy q => I.ok.has _ (ok.free y hy q)
  refine wpAny_comprehension_free (use := use) two f0 (closure_ok hf) ok.kind (fun y hy q => (ok.uniq y hy).trans (congrArg some q)) (thn (hi.run pn s σ H _ I h) fun xv s1 hx => thn hx fun itv s2 h2 => ?_)
  obtain ⟨it, fp, tn, S, H2, rfl, I2, T, st2, fo2, q⟩ := h2
  refine wpAny_newObj_type (newEnv_comp ?_); have q := q _ (I2.hok.fresh (Nat.le_refl _))
  have I3 : Inv X pn σ (upd H2 s2.heap.objs.size o0) { s2 with heap := s2.heap.push { cls := .type "dict", data := .dict #[] } } :=
    I2.laid (t' := s2.toks) (fun b o w => Heap.get?_push_of_some _ w) (Nat.le_refl _) (new s2.heap I2.big)
  have small : ∀ b ∈ fp, b < s2.heap.objs.size := fun b hb => let ⟨_, w, _⟩ := T.obj _ _ st2 b hb; Heap.lt_size w
  have fo3 : ∀ b ∈ fp, FpOk X pn (upd H2 s2.heap.objs.size o0) b ∧ b < (s2.heap.push { cls := .type "dict", data := .dict #[] }).objs.size := fun b hb =>
    ⟨⟨(upd_ne (Nat.ne_of_lt (small b hb))).trans (fo2 b hb).1, (fo2 b hb).2⟩, Nat.lt_of_lt_of_le (small b hb) (by rw [Heap.size_push]; exact Nat.le_succ _)⟩
  have st3 := T.keep _ _ _ st2 fun b _ o w => (Heap.get?_push_of_some { cls := .type "dict", data := .dict #[] } w : (s2.heap.push _).get? b = some o)
  generalize hH : upd H2 s2.heap.objs.size o0 = H3 at I3 fo3 q
  generalize hD : s2.heap.objs.size = D at I3 q ⊢
  generalize hs3 : ({ s2 with heap := s2.heap.push { cls := .type "dict", data := .dict #[] } } : Shared) = s3 at I3 ⊢
  have e3 : s3.heap = s2.heap.push { cls := .type "dict", data := .dict #[] } := by rw [← hs3]
  rw [← e3] at st3 fo3
  have I4 := block_start I3 ok hN fo3
  have st4 := T.keep _ _ _ st3 fun b _ o w => pushCells_keeps scope.names _ _ _ (Heap.get?_push_of_some { cls := .type "dict", data := .dict #[] } w)
  have b0 := pg s3 H3 s3.heap.objs.size (cellsFrom (s3.heap.objs.size + 1) scope.names (cloFrom X.env.cells scope.names [])) fp
  have b1 := pt s3 H3 s3.heap.objs.size (cellsFrom (s3.heap.objs.size + 1) scope.names (cloFrom X.env.cells scope.names [])) fp
  have b2 := pi s3 H3 s3.heap.objs.size (cellsFrom (s3.heap.objs.size + 1) scope.names (cloFrom X.env.cells scope.names [])) fp
  have b3 := pgj s3 H3 s3.heap.objs.size (cellsFrom (s3.heap.objs.size + 1) scope.names (cloFrom X.env.cells scope.names [])) fp
  have b4 := ptj s3 H3 s3.heap.objs.size (cellsFrom (s3.heap.objs.size + 1) scope.names (cloFrom X.env.cells scope.names [])) fp
  have b5 := pm s3 H3 s3.heap.objs.size (cellsFrom (s3.heap.objs.size + 1) scope.names (cloFrom X.env.cells scope.names [])) fp
  have all := two_loops (Y := X.blk s3 H3 scope (compEnvC scope (cellsFrom (s3.heap.objs.size + 1) scope.names (cloFrom X.env.cells scope.names [])) s3.heap.objs.size X.env) fp) (R := compPost (model X.prog X.w) X.A X.xe use Qf (.ref D) s3.heap.objs.size) W hc rfl rfl (fun _ hb => hb) hv T b0 b1 b2 b3 b4 b5 (f1 _) I4 st4 (fun b hb => (fo3 b hb).1.1) q fun z K Iz o => ?_
  · exact two_start W W.cl0 all (T.self X.A 0 _ _ _ st4 all)
  · have back : Inv X pn σ K z := I3.call' (ch := fp) Iz.os Iz.base Iz.hok Iz.bare fun b hb => ⟨(fo3 b hb).1.2.2.2.1, (fo3 b hb).1.2.1, (fo3 b hb).1.2.2.2.2.1, (fo3 b hb).1.2.2.2.2.2⟩
    obtain ⟨m, hm, _⟩ := Iz.loc
    exact hend D _ z m K back o hm (I3.fpOk (Nat.le_refl _) Iz.free)
/-- {k: v for .. for ..} -/
theorem pe_dc2 {kx vx t0 i0 t1 i1 : Expr} {c0 c1 : List Expr} {g gj : TG} {tt tj : TT} {wi wj : TI} {tk tv : TE} {scope : Scope} {own : List (Str × Nat)} {vj : List Nat} {pos : Pos} {o0 : HO} (new : ∀ {P : Program} {w : World} {H : Hp} (h : Heap), sysModules < h.objs.size → ObjOk P w H (h.push { cls := .type "dict", data := .dict #[] }) h.objs.size o0)
    (hc : X.calm = true) (room : X.A.units < cLine) (hN : X.N.Nodup) (hi : PI X t0 i0 wi) (ok : BlkOk X.N X.env.scope scope own) (hv : ∀ i ∈ vj, i ∈ own.map (·.2))
    (pg : InBlk X scope (PG · t0 g)) (pt : InBlk X scope (PTs · c0 tt)) (pi : InBlk X scope (PI · t1 i1 wj)) (pgj : InBlk X scope (PG · t1 gj)) (ptj : InBlk X scope (PTs · c1 tj)) (pk : InBlk X scope (PE · kx tk)) (pv : InBlk X scope (PE · vx tv))
    (f0 : ∀ x, foldedSetIterable i0 X.env x = pure x := by intro _; rfl) (f1 : ∀ env x, foldedSetIterable i1 env x = pure x := by intro _ _; rfl) :
    PE X (.DictComp kx vx [⟨t0, i0, c0, 0⟩, ⟨t1, i1, c1, 0⟩] scope pos) (tTwo o0 wi g tt wj gj tj (emPut tk tv) (own.map (·.2)) vj) := by
  refine ⟨fun pn s σ H Q I h => ?_⟩
  rw [arm_eval_DictComp]
  refine two_core (two_dict kx vx t0 i0 t1 i1 c0 c1 scope pos) rfl new hc hN I hi ok hv pg pt pi pgj ptj (fun s H C cl fp => emits_dict room (pk s H C cl fp) (pv s H C cl fp)) f0 f1 h fun D C z m K Iz q hm f => ⟨m, hm, fun h'' sb => ?_⟩
  obtain ⟨k0, k1, k2, k3, k4, k5⟩ := f
  exact ⟨.ref D, K, Iz.turned (t' := z.toks) (fun b o hb w => (sb.2 b hb).trans w) k0 k1 k3 k4 k5, rfl, q⟩
end
/-- over a tuple that stays: P says how far it has come -/
theorem loop_tup {K : PySem.W.Frag} {a : Addr} {xs : List V} {st : Hp} {out : Hp → Prop} {body : (Hp → Prop) → V → Hp → Prop} (P : Nat → Hp → Prop) (h0 : P 0 st) (tup : ∀ i H, i ≤ xs.length → P i H → SqT K H a xs)
    (turn : ∀ i x H, xs[i]? = some x → P i H → body (P (i + 1)) x H) (hend : ∀ H, P xs.length H → out H) : LoopOk (Itt K a) st out body := by
  refine ⟨fun i m H => i + m = xs.length ∧ P i H, ⟨xs.length, Nat.zero_add _, h0⟩, fun i m H q => ?_⟩
  obtain ⟨e, p⟩ := q
  have t := tup i H (by omega) p
  by_cases hlt : i < xs.length
  · refine .inr ⟨⟨xs, xs[i], t, List.getElem?_eq_getElem hlt⟩, P (i + 1), fun K' p' => ⟨m - 1, by omega, by omega, p'⟩, fun x K' y => ?_⟩
    obtain ⟨rfl, y⟩ := y
    exact turn i x _ (y xs t) p
  · have e2 : i = xs.length := by omega
    subst e2
    exact .inl ⟨⟨xs, t, Nat.le_refl _⟩, hend H p⟩
end Own

set_option Elab.async false
set_option maxRecDepth 100000
set_option maxHeartbeats 4000000
set_option linter.unusedVariables false
/-! set comprehensions of texts, with one for -/
namespace Own
open PySem PySem.Spec PyProof.Rows L2
open PySem.Froz (SD sObj TxOk)
section
variable {P : Program} {w : World} {A : Around} {E : Value → Shared → Prop} {s : Shared}
/-- set.add of a text -/
theorem tx_put {p : Addr} {l : List Str} {z : Str} {u : Tok} {Q : Value → Shared → Prop} (T : TxSet P w s.heap p l) (room : l.length + 1 < scanBound)
    (q : ∀ h' l', Heap.SameBut p s.heap h' → TxSet P w h' p l' → (∀ y, y ∈ l' ↔ y ∈ l ∨ y = z) → Q .none { s with heap := h', toks := s.toks + 1 }) :
    wpAny (model P w) A (call (.builtin "set.add") [.ref p, .str z u]) Q E s := by
  have ty : s.TypeIs (.ref p) "set" := by
    obtain ⟨D, g, _⟩ := T
    exact ⟨_, g, rfl⟩
  refine wpAny_call_entry F.slot_set_add ty F.entry_set_add ?body (F.args_set_add_2 _ _)
  unfold Builtin.«set.add» Builtin.Frozenset.oneOther
  simp only [List.isEmpty_nil, bind_assoc]
  unfold Builtin.Frozenset.addrOf setAdd
  refine wpAny_bind (wpAny_pure (wpAny_bind (wpAny_pure (wpAny_bind (wpAny_holding (wpAny_bind ((strKind P w).pyHash (k := z) (PySem.Froz.is_str z u) ?_)))))))
  refine tx_add (s := { s with toks := s.toks + 1 }) T room fun h' l' b sb T' m _ => ?_
  exact wpAny_pure ⟨_, rfl, q h' l' sb T' m⟩
end
section
variable {X : Cx}
theorem putD {pins : List (Addr × Obj)} {σ : L2.St} {H : Hp} {s : Shared} {E : Value → Shared → Prop} {D : Addr} {zs : List Str} {z : Str} {u : Tok} {Q : Value → Shared → Prop} (I : Inv X pins σ H s) (hD : H D = some (SetD X.prog X.w D zs)) (hz : zs.length < 4000)
    (h : ∀ s', Inv X pins σ (upd H D (SetD X.prog X.w D (zs ++ [z]))) s' → Q .none s') : wpAny (model X.prog X.w) X.A (call (.builtin "set.add") [.ref D, .str z u]) Q E s := by
  obtain ⟨⟨l, hm, hl, T⟩, _⟩ := I.hok D _ hD
  have sb : scanBound = 4096 := rfl
  refine tx_put T (by omega) fun h' l' sbt T' m => h _ ?_
  have mm : Mem l' (zs ++ [z]) := fun y => by
    rw [m y, hm y]
    simp
  have ll : l'.length ≤ 4000 := by
    have := sub_len (zs := zs ++ [z]) T'.choose_spec.2.2.1 fun x hx => (mm x).mp hx
    rw [List.length_append] at this
    simp at this
    omega
  have hm' : Mut (H D) := by rw [hD]; exact True.intro
  exact I.write (e := D) (t' := s.toks + 1) hm' (.inl rfl) (fun b o hb hu => (sbt.2 b hb).trans hu) ⟨_, T'.choose_spec.1⟩ (setD_new mm ll T')
/-- z, put into the new set -/
def emAdd (P : Program) (w : World) (te : TE) : TEm := fun D σ H N => te σ H fun y H1 => ∃ zs z, y = .str z ∧ H1 D = some (SetD P w D zs) ∧ zs.length < 4000 ∧ N (upd H1 D (SetD P w D (zs ++ [z])))
/-- one for -/
def tScT (P : Program) (w : World) (wi : TI) (g : TG) (tt : TT) (te : TE) (vs : List Nat) : TE := fun σ H Q => wi σ H fun S H1 => ∀ D, H1 D = none → LoopOk S (upd H1 D (SetD P w D [])) (Q (.ref D)) fun N x K =>
  g x (wipe σ vs) K fun σ2 H2 => wipe σ2 vs = wipe σ vs ∧ tt σ2 H2 fun b H3 => if b = true then emAdd P w te D σ2 H3 N else N H3
theorem one_loop {Y : Cx} {elt t0 i0 : Expr} {c0 : List Expr} {scope : Scope} {pos : Pos} {g : TG} {tt : TT} {te : TE} {vs : List Nat} {σ : L2.St} {D : Addr} {it : Addr} {fp : List Addr} {tn : Nat → Heap → Prop} {S : It} {H : Hp} {s : Shared} {R : Result → Shared → Prop} {out : Hp → Prop}
    (hc : Y.calm = true) (xe : Y.xe = fun _ _ => False) (pn0 : Y.pn = []) (fpe : ∀ b ∈ fp, b ∈ Y.ex) (T : Turn Y.prog Y.w Y.K t0 S fp it tn)
    (pg : PG Y t0 g) (pt : PTs Y c0 tt) (pe : PE Y elt te) (I : Inv Y [] (wipe σ vs) H s) (st : tn 0 s.heap) (nf : ∀ b ∈ fp, H b = none)
    (h : LoopOk S H out fun N x K => g x (wipe σ vs) K fun σ2 H2 => wipe σ2 vs = wipe σ vs ∧ tt σ2 H2 fun b H3 => if b = true then emAdd Y.prog Y.w te D σ2 H3 N else N H3)
    (hend : ∀ z K, Inv Y [] (wipe σ vs) K z → out K → R (.ok .next) z) : codeAny (model Y.prog Y.w) Y.A (.compLoop (.SetComp elt [⟨t0, i0, c0, 0⟩] scope pos) 0 (.ref it) (.ref D) Y.env) R s := by
  obtain ⟨G, ⟨m0, g0⟩, go⟩ := h
  refine PpSet.compLoopS_any (StAt Y [] (wipe σ vs) fp tn G) (fun n z hz => ?_) m0 ⟨0, H, I, st, nf, g0⟩
  have ok : ∀ {τ : L2.St} {K : Hp} {z : Shared}, Inv Y [] τ K z → (∀ b ∈ fp, K b = none) → ∀ b ∈ fp, FpOk Y [] K b := fun {τ K z} I' hn b hb =>
    ⟨hn b hb, (I'.ok.exf b (fpe b hb)).1, I'.ok.exfs b (fpe b hb), .inl (fpe b hb), fun x c q => (I'.ok.exf b (fpe b hb)).2 x c q, fun p hp => absurd (show p ∈ Y.pn ++ [] from hp) (by rw [pn0]; simp)⟩
  refine thnF (next_of hc T ok go hz (R := R (.ok .next)) hend) fun r z1 k1 => ?_
  match r, k1 with
  | none, k1 => exact k1
  | some u, k1 =>
    refine thnF k1 fun _ z2 k2 => ?_
    obtain ⟨N, x, K, I2, ru, bd, again⟩ := k2
    have pgr := pg.run _ z2 _ K x u _ I2 ru bd
    rw [xe] at pgr
    refine thnF pgr fun _ z3 k3 => ?_
    obtain ⟨σ3, H3, I3, w3, q3⟩ := k3
    have ptr := pt.run _ z3 σ3 H3 _ I3 q3
    rw [xe] at ptr
    refine thnF ptr fun b z4 k4 => ?_
    obtain ⟨H4, I4, q4⟩ := k4
    cases b with
    | false =>
      simp only [Bool.false_eq_true, if_false] at q4 ⊢
      exact again σ3 z4 H4 I4 (back_of w3) q4
    | true =>
      simp only [if_true] at q4 ⊢
      have per := pe.run _ z4 σ3 H4 _ I4 q4
      rw [xe] at per
      refine thnF per fun v z5 k5 => ?_
      obtain ⟨y, H5, I5, r5, zs, zz, ey, hD, lz, nx⟩ := k5
      subst ey
      obtain ⟨t, rfl⟩ : ∃ t, v = Value.str zz t := r5
      exact putD I5 hD lz fun z6 I6 => again σ3 z6 _ I6 (back_of w3) nx
theorem scT_core {pn : List (Addr × Obj)} {s : Shared} {σ : L2.St} {H : Hp} {Q : VK} {elt t0 i0 : Expr} {c0 : List Expr} {g : TG} {tt : TT} {wi : TI} {te : TE} {scope : Scope} {own : List (Str × Nat)} {pos p2 : Pos} {use : Option (Value → Sem Unit)} {Qf : Value → Shared → Prop}
    (hc : X.calm = true) (hN : X.N.Nodup) (I : Inv X pn σ H s) (hi : PI X t0 i0 wi) (ok : BlkOk X.N X.env.scope scope own)
    (pg : InBlk X scope (PG · t0 g)) (pt : InBlk X scope (PTs · c0 tt)) (pe : InBlk X scope (PE · elt te))
    (f0 : ∀ x, foldedSetIterable i0 X.env x = pure x) (h : tScT X.prog X.w wi g tt te (own.map (·.2)) σ H Q)
    (hend : ∀ D C z m K, Inv X pn σ K z → Q (.ref D) K → z.heap.Ns C m → FpOk X pn K C → compPost (model X.prog X.w) X.A X.xe use Qf (.ref D) C (.ok .next) z) :
    wpAny (model X.prog X.w) X.A (comprehension (.SetComp elt [⟨t0, i0, c0, 0⟩] scope pos) scope X.env p2 (newSet (.type "set")) false (eval i0 X.env) use) Qf X.xe s := by
  have hf : ∀ y ∈ scope.names, y.2 = .free → ∃ c, X.env.cells.lookup y.1 = some c := fun y hy q => I.ok.has _ (ok.free y hy q)
  refine wpAny_comprehension_free (use := use) rfl f0 (closure_ok hf) ok.kind (fun y hy q => (ok.uniq y hy).trans (congrArg some q)) (thn (hi.run pn s σ H _ I h) fun xv s1 hx => thn hx fun itv s2 h2 => ?_)
  obtain ⟨it, fp, tn, S, H2, rfl, I2, T, st2, fo2, q⟩ := h2
  refine PpSet.newSet_ok (newEnv_comp ?_); have q := q _ (I2.hok.fresh (Nat.le_refl _))
  let ob : Obj := setO0 X.w
  have I3 : Inv X pn σ (upd H2 s2.heap.objs.size (SetD X.prog X.w s2.heap.objs.size [])) { s2 with heap := s2.heap.push ob } :=
    I2.laid (t' := s2.toks) (fun b o w => Heap.get?_push_of_some _ w) (Nat.le_refl _) (setD_new (l := []) (fun y => Iff.rfl) (Nat.zero_le _) (tx_new (Heap.get?_push_size _ rfl)))
  have small : ∀ b ∈ fp, b < s2.heap.objs.size := fun b hb => let ⟨_, w, _⟩ := T.obj _ _ st2 b hb; Heap.lt_size w
  have fo3 : ∀ b ∈ fp, FpOk X pn (upd H2 s2.heap.objs.size (SetD X.prog X.w s2.heap.objs.size [])) b ∧ b < (s2.heap.push ob).objs.size := fun b hb =>
    ⟨⟨(upd_ne (Nat.ne_of_lt (small b hb))).trans (fo2 b hb).1, (fo2 b hb).2⟩, Nat.lt_of_lt_of_le (small b hb) (by rw [Heap.size_push]; exact Nat.le_succ _)⟩
  have st3 := T.keep _ _ _ st2 fun b _ o w => (Heap.get?_push_of_some ob w : (s2.heap.push _).get? b = some o)
  generalize hH : upd H2 s2.heap.objs.size (SetD X.prog X.w s2.heap.objs.size []) = H3 at I3 fo3 q
  generalize hD : s2.heap.objs.size = D at I3 q ⊢
  have e0 : ({ s2 with heap := s2.heap.push { cls := .type "set", dict := none, data := .set #[] 0 (.fresh 0 0 (!X.w.params.followText "set-order")) } } : Shared) = { s2 with heap := s2.heap.push ob } := rfl
  generalize hs3 : ({ s2 with heap := s2.heap.push ob } : Shared) = s3 at I3 e0
  have e3 : s3.heap = s2.heap.push ob := by rw [← hs3]
  rw [← e3] at st3 fo3
  have I4 := block_start I3 ok hN fo3
  have st4 := T.keep _ _ _ st3 fun b _ o w => pushCells_keeps scope.names _ _ _ (Heap.get?_push_of_some { cls := .type "dict", data := .dict #[] } w)
  have b0 := pg s3 H3 s3.heap.objs.size (cellsFrom (s3.heap.objs.size + 1) scope.names (cloFrom X.env.cells scope.names [])) fp
  have b1 := pt s3 H3 s3.heap.objs.size (cellsFrom (s3.heap.objs.size + 1) scope.names (cloFrom X.env.cells scope.names [])) fp
  have b2 := pe s3 H3 s3.heap.objs.size (cellsFrom (s3.heap.objs.size + 1) scope.names (cloFrom X.env.cells scope.names [])) fp
  have all := one_loop (Y := X.blk s3 H3 scope (compEnvC scope (cellsFrom (s3.heap.objs.size + 1) scope.names (cloFrom X.env.cells scope.names [])) s3.heap.objs.size X.env) fp) (D := D) (scope := scope) (pos := pos) (i0 := i0) (R := compPost (model X.prog X.w) X.A X.xe use Qf (.ref D) s3.heap.objs.size) hc rfl rfl (fun _ hb => hb) T b0 b1 b2 I4 st4 (fun b hb => (fo3 b hb).1.1) q fun z K Iz o => ?_
  · rw [e0]
    exact PpSet.codeAny_compStart_set all (T.self X.A 0 _ _ _ st4 all)
  · have back : Inv X pn σ K z := I3.call' (ch := fp) Iz.os Iz.base Iz.hok Iz.bare fun b hb => ⟨(fo3 b hb).1.2.2.2.1, (fo3 b hb).1.2.1, (fo3 b hb).1.2.2.2.2.1, (fo3 b hb).1.2.2.2.2.2⟩
    obtain ⟨m, hm, _⟩ := Iz.loc
    exact hend D _ z m K back o hm (I3.fpOk (Nat.le_refl _) Iz.free)
/-- {z for .. if ..}, texts -/
theorem pe_scT {elt t0 i0 : Expr} {c0 : List Expr} {g : TG} {tt : TT} {wi : TI} {te : TE} {scope : Scope} {own : List (Str × Nat)} {pos : Pos}
    (hc : X.calm = true) (hN : X.N.Nodup) (hi : PI X t0 i0 wi) (ok : BlkOk X.N X.env.scope scope own)
    (pg : InBlk X scope (PG · t0 g)) (pt : InBlk X scope (PTs · c0 tt)) (pe : InBlk X scope (PE · elt te)) (f0 : ∀ x, foldedSetIterable i0 X.env x = pure x := by intro _; rfl) :
    PE X (.SetComp elt [⟨t0, i0, c0, 0⟩] scope pos) (tScT X.prog X.w wi g tt te (own.map (·.2))) := by
  refine ⟨fun pn s σ H Q I h => ?_⟩
  rw [PpSet.eval_SetComp]
  refine scT_core hc hN I hi ok pg pt pe f0 h fun D C z m K Iz q hm f => ⟨m, hm, fun h'' sb => ?_⟩
  obtain ⟨k0, k1, k2, k3, k4, k5⟩ := f
  exact ⟨.ref D, K, Iz.turned (t' := z.toks) (fun b o hb w => (sb.2 b hb).trans w) k0 k1 k3 k4 k5, rfl, q⟩
end
/-- a loop over what is walked: P says how far it has come -/
theorem loop_it {J : It} {n : Nat} {G : Hp → Prop} {Y : Nat → Hp → V → Hp → Prop} (w : Walk J n G Y) {st : Hp} {out : Hp → Prop} {body : (Hp → Prop) → V → Hp → Prop} (P : Nat → Hp → Prop) (h0 : P 0 st) (good : ∀ i H, i ≤ n → P i H → G H)
    (turn : ∀ i x H H', i < n → P i H → Y i H x H' → body (P (i + 1)) x H') (hend : ∀ H, P n H → out H) : LoopOk J st out body := by
  refine ⟨fun i m H => i + m = n ∧ P i H, ⟨n, Nat.zero_add _, h0⟩, fun i m H q => ?_⟩
  obtain ⟨e, p⟩ := q
  have g := good i H (by omega) p
  by_cases hlt : i < n
  · exact .inr ⟨w.goes i H hlt g, P (i + 1), fun K' p' => ⟨m - 1, by omega, by omega, p'⟩, fun x K' y => turn i x H K' hlt p (w.yields i H x K' hlt g y)⟩
  · have e2 : i = n := by omega
    subst e2
    exact .inl ⟨w.stops H g, hend H p⟩
/-! steps -/
section
variable {σ : L2.St} {H : Hp} {Q : VK} {wi wi1 : TI} {g g1 : TG} {tt tt1 : TT} {te : TE} {vs vs1 : List Nat}
theorem k_lc2 (h : wi σ H fun J H1 => ∀ D, H1 D = none → LoopOk J (upd H1 D (.lst [])) (Q (.ref D)) fun Nx x H' => g x (wipe σ vs) H' fun σ2 H2 => wipe σ2 vs = wipe σ vs ∧ tt σ2 H2 fun b H3 =>
    if b = true then wi1 σ2 H3 fun J1 H4 => LoopOk J1 H4 Nx fun Nx1 x H' => g1 x (wipe σ2 vs1) H' fun σ3 H5 => wipe σ3 vs1 = wipe σ2 vs1 ∧ tt1 σ3 H5 fun b H6 =>
      if b = true then te σ3 H6 fun y H7 => ∃ acc, H7 D = some (.lst acc) ∧ acc.length < sizeLine ∧ Nx1 (upd H7 D (.lst (acc ++ [y]))) else Nx1 H6
    else Nx H3) : tLc2 wi g tt wi1 g1 tt1 te vs vs1 σ H Q := h
theorem k_scT {P : Program} {w : World} (h : wi σ H fun S H1 => ∀ D, H1 D = none → LoopOk S (upd H1 D (SetD P w D [])) (Q (.ref D)) fun N x K =>
  g x (wipe σ vs) K fun σ2 H2 => wipe σ2 vs = wipe σ vs ∧ tt σ2 H2 fun b H3 => if b = true then te σ2 H3 fun y H1 => ∃ zs z, y = .str z ∧ H1 D = some (SetD P w D zs) ∧ zs.length < 4000 ∧ N (upd H1 D (SetD P w D (zs ++ [z]))) else N H3) : tScT P w wi g tt te vs σ H Q := h
theorem k_star {K : PySem.W.Frag} {t : TA} {Q : List V → Hp → Prop} (h : te σ H fun x H1 => ∃ p xs, x = V.ref p ∧ (SqT K H1 p xs ∨ SqL K H1 p xs) ∧ t σ H1 fun ys H2 => Q (xs ++ ys) H2) : StX.tStar K te t σ H Q := h
end
end Own

set_option Elab.async false
set_option maxRecDepth 100000
/-! one more step: x[k] by an own __getitem__ -/
namespace Own
open PySem PySem.Spec PyProof.Rows L2
theorem k_ixO {C : Addr} {sp : Sp} {E : L2.St → XK} {ta tb : TE} {σ : L2.St} {H : Hp} {Q : VK} (h : ta σ H fun x H1 => tb σ H1 fun y H2 => ∃ a dx fs, x = .ref a ∧ H2 a = some (.ins C dx fs) ∧ sp [.ref a, y] H2 Q (E σ)) : tIxO C sp E ta tb σ H Q := h
end Own

set_option Elab.async false
set_option maxRecDepth 100000
set_option maxHeartbeats 4000000
set_option linter.unusedVariables false
namespace K11
open PySem PySem.Spec PyProof.Rows L2 Own
-- steps
local macro_rules | `(tactic| walk_at "lk") => `(tactic| first
  | assumption | exact upd_same
  | ((with_reducible refine' lk_new ?e (by assumption)); (case e => walk_at "lk"))
  | ((with_reducible refine' lk_ext (by assumption) ?e); (case e => walk_at "lk"))
  | ((with_reducible refine' lk_same (by assumption) ?e); (case e => walk_at "lk")))
local macro_rules | `(tactic| walk_at "sq") => `(tactic| first | assumption | exact SqL.of (by walk_at "lk") | exact SqT.of (by walk_at "lk"))
local macro_rules | `(tactic| walk_at "r1") => `(tactic| first
  | with_reducible refine k_seq ?_ | with_reducible refine k_asg ?_ | with_reducible refine k_ret ?_ | with_reducible refine k_drop ?_ | with_reducible refine k_next ?_ | with_reducible refine k_ifS ?_
  | ((with_reducible refine' k_var ?e ?_); (case e => exact rfl)) | with_reducible refine k_c ?_ | with_reducible refine k_op ?_ | with_reducible refine k_un ?_ | with_reducible refine k_test ?_ | with_reducible refine k_B ?_
  | with_reducible refine k_and ?_ | with_reducible refine k_or ?_ | with_reducible refine k_not ?_ | with_reducible refine k_andV ?_ | with_reducible refine k_orV ?_ | with_reducible refine k_notV ?_ | with_reducible refine k_if ?_
  | with_reducible refine k_nil ?_ | with_reducible refine k_cons ?_ | with_reducible refine k_tup ?_ | with_reducible refine k_lst ?_ | with_reducible refine k_call ?_ | with_reducible refine k_cb ?_ | with_reducible refine k_ck ?_
  | with_reducible refine k_par ?_ | with_reducible refine k_par1 ?_ | with_reducible refine k_tr ?_ | with_reducible refine k_rI0 ?_ | with_reducible refine k_rU ?_
  | with_reducible refine k_gN ?_ | with_reducible refine k_gS ?_ | with_reducible refine k_gNil ?_ | with_reducible refine k_gCons ?_ | with_reducible refine k_bm0 ?_ | with_reducible refine k_bm ?_
  | with_reducible refine k_for ?_ | with_reducible refine k_iL ?_ | with_reducible refine k_iT ?_ | with_reducible refine k_iR1 ?_ | ((with_reducible refine k_iR1i ?e ?_); (case e => first | decide | exact ⟨by omega, by omega⟩))
  | with_reducible refine k_max ?_ | with_reducible refine k_isB ?_ | with_reducible refine k_sl ?_ | with_reducible refine k_noP ?_ | with_reducible refine k_part ?_ | with_reducible refine k_partI ?_ | with_reducible refine k_revL ?_
  | ((with_reducible refine' k_ixqT ?e ?f ?_); (case e => walk_at "sq"); (case f => first | exact rfl | exact atI_head))
  | ((with_reducible refine' k_ixqL ?e ?f ?_); (case e => walk_at "sq"); (case f => first | exact rfl | exact atI_head))
  | ((with_reducible refine' k_lenL ?e ?_); (case e => walk_at "sq"))
  | ((with_reducible refine' k_lenT ?e ?_); (case e => walk_at "sq"))
  | ((with_reducible refine' k_ixL ?e ?f ?_); (case e => walk_at "sq"); (case f => first | exact rfl | exact atI_head))
  | ((with_reducible refine' k_ixT ?e ?f ?_); (case e => walk_at "sq"); (case f => first | exact rfl | exact atI_head))
  | ((with_reducible refine k_eq ?e ?_); (case e => exact rfl)) | ((with_reducible refine k_ne ?e ?_); (case e => exact rfl))
  | ((with_reducible refine k_rI ?e ?_); (case e => first | assumption | omega | decide | exact ⟨by omega, by omega⟩ | exact .inl ⟨by omega, by omega⟩ | exact .inr ⟨by omega, by omega⟩)))
local macro_rules | `(tactic| walk_at "rd") => `(tactic| repeat walk_at "r1")
local macro_rules | `(tactic| walk_at "r2") => `(tactic| first
  | walk_at "r1"
  | with_reducible refine k_ifTt ?_ | with_reducible refine k_ifFf ?_ | with_reducible refine k_ifNt ?_ | with_reducible refine k_ifNf ?_
  | with_reducible refine k_makeR ?_ | with_reducible refine k_tJ ?_ | with_reducible refine k_tJc ?_ | with_reducible refine k_tJn ?_ | with_reducible refine k_fmt ?_ | with_reducible refine k_lc ?_ | with_reducible refine k_din ?_ | with_reducible refine k_fld ?_ | with_reducible refine k_dget ?_
  | with_reducible refine k_dput ?_
  | with_reducible refine k_isNv ?_
  | with_reducible refine k_notNv ?_
  | with_reducible refine k_str ?_
  | with_reducible refine k_enumT ?_
  | with_reducible refine k_zipA ?_
  | with_reducible refine k_chain ?_
  | ((with_reducible refine' k_dgS ?e dkv_cells ?_); (case e => walk_at "lk"))
  | ((with_reducible refine' k_dgS ?e dkv_mixed ?_); (case e => walk_at "lk"))
  | ((with_reducible refine' k_dgS ?e dkv_turn ?_); (case e => walk_at "lk")))
local macro_rules | `(tactic| walk_at "rr") => `(tactic| repeat walk_at "r2")
local macro_rules | `(tactic| walk_at "r2") => `(tactic| first
  | with_reducible refine k_lc2 ?_ | with_reducible refine k_scT ?_ | with_reducible refine k_ixO ?_ | with_reducible refine k_star ?_)
-- steps end
/-! ### a schema as it is asked -/
def spGet0 (C : Addr) : Sp := fun vs H Q _ => ∃ (p : Addr) (ts zs : List AT) (x : AT), vs = [.ref p, .str x.2.nm] ∧ SchAt C H p ts zs ∧ x ∈ ts ∧ Q (.ref x.1) H
structure Sch (P : Program) (w : World) (K : PySem.W.Frag) (mg : Str → Option Value) (base : Heap) (C : Addr) : Prop where
  ci : ∃ f, PySem.W.findIn K (.ref C) "__contains__" = some (some (.ref f)) ∧ PySem.W.typeIn K (.ref f) = some (.type "function") ∧ FnR P w K mg base CX0 1 f (spIn C)
  gi : ∃ f, PySem.W.findIn K (.ref C) "__getitem__" = some (some (.ref f)) ∧ PySem.W.isFn K (.ref f) = true ∧ PySem.W.fnIn K f = true ∧ FnR P w K mg base CX0 2 f (spGet0 C)
theorem SchAt.same {C p : Addr} {H H' : Hp} {ts zs : List AT} (S : SchAt C H p ts zs) (s : Same H H') : SchAt C H' p ts zs := by
  obtain ⟨dx, d, t, h1, h2, h3⟩ := S.ex
  exact ⟨S.perm, S.asc, fun x hx => ⟨(S.ok x hx).1.same s, (S.ok x hx).2⟩, S.nd, S.len, dx, d, t, s _ _ h1, s _ _ h2, s _ _ h3⟩
theorem uses_depth : ∀ us : List Use, PyData.depthAll (us.map useD) ≤ 1
  | [] => Nat.zero_le _
  | u :: us => by
    have ih := uses_depth us
    show max (useD u).depth (PyData.depthAll (us.map useD)) ≤ 1
    have : (useD u).depth = 1 := rfl
    omega
theorem uses_shaped {us : List Use} (h : UsOk us) : SeqAt.shaped (.tuple (us.map useD)) = true := by
  unfold SeqAt.shaped
  have l := uses_lay h
  have d := uses_depth us
  rw [Bool.and_eq_true]
  refine ⟨l, decide_eq_true ?_⟩
  show PyData.depthAll (us.map useD) + 1 ≤ 64
  omega
theorem uses_ne {us : List Use} (h : 1 ≤ us.length) : PyData.eqv (.tuple (us.map useD)) (.tuple []) = false := by
  match us, h with
  | _ :: _, _ => rfl
theorem col_of : ∀ {ts : List AT}, (namesOf ts).Nodup → ∀ {x : AT}, x ∈ ts → colsOf ts x.2.nm = x.2.cs
  | y :: ts, nd, x, h => by
    have n2 := List.nodup_cons.mp (show (y.2.nm :: namesOf ts).Nodup from nd)
    unfold colsOf
    rcases List.mem_cons.mp h with rfl | h
    · rw [List.find?_cons_of_pos (by simp)]
      rfl
    · have ne : ¬ y.2.nm = x.2.nm := fun e => n2.1 (e ▸ List.mem_map.mpr ⟨x, h, rfl⟩)
      rw [List.find?_cons_of_neg (by simpa using ne)]
      exact col_of n2.2 h
theorem use_at {H : Hp} {v : V} {u : Use} (h : DT H v (useD u)) : ∃ a, v = .ref a ∧ H a = some (.tup [.str u.1, .str u.2]) := by
  obtain ⟨a, xs, rfl, ha, hs⟩ := h.unT
  cases hs with
  | cons h1 hs => cases hs with
    | cons h2 hs => cases hs with
      | nil =>
        cases h1
        cases h2
        exact ⟨a, rfl, ha⟩
theorem uses_at {H : Hp} {vs : List V} {us : List Use} (h : DTs H vs (us.map useD)) {i : Nat} {v : V} (e : vs[i]? = some v) : ∃ u a, us[i]? = some u ∧ v = .ref a ∧ H a = some (.tup [.str u.1, .str u.2]) := by
  obtain ⟨d, h1, h2⟩ := h.at_ e
  rw [List.getElem?_map] at h1
  obtain ⟨u, hu, rfl⟩ := Option.map_eq_some_iff.mp h1
  obtain ⟨a, rfl, ha⟩ := use_at h2
  exact ⟨u, a, hu, rfl, ha⟩
theorem usesOf_snoc (ts : List AT) (rs : List Use) (r : Use) : usesOf ts (rs ++ [r]) = usesOf ts rs ++ (colsOf ts r.2).map fun c => (r.1, c) := by
  unfold usesOf
  rw [List.flatMap_append]
  simp
section
variable {P : Program} {w : World} {K : PySem.W.Frag} {mg : Str → Option Value} {base : Heap} {C : Addr}
abbrev s_cells_of : Stmt := top 23
theorem sc_cells_of : FnScope ["schema", "references", "column", "alias", "table"] ["schema", "references"] (defScope s_cells_of) :=
  ⟨rfl, rfl, rfl, by decide +kernel, rfl, by decide +kernel, by decide +kernel⟩
abbrev s__busy_tables : Stmt := top 24
theorem sc__busy_tables : FnScope ["table", "references", "_", "name"] ["table", "references"] (defScope s__busy_tables) :=
  ⟨rfl, rfl, rfl, by decide +kernel, rfl, by decide +kernel, by decide +kernel⟩
abbrev s__are_references : Stmt := top 26
theorem sc__are_references : FnScope ["schema", "kind", "table", "thing", "some", "alias", "_"] ["schema", "kind", "table", "thing"] (defScope s__are_references) :=
  ⟨rfl, rfl, rfl, by decide +kernel, rfl, by decide +kernel, by decide +kernel⟩
theorem ok_get0 {f : Addr} {fd : FuncData} (F : Fun K "__getitem__" "Schema.__getitem__" s_Schema___getitem__ f fd) (T : Txt K C)
    {fc : Addr} (i1 : PySem.W.findIn K (.ref C) "__contains__" = some (some (.ref fc))) (i2 : PySem.W.typeIn K (.ref fc) = some (.type "function")) (FC : FnR P w K mg base CX0 1 fc (spIn C)) :
    FnOk P w K mg base CX0 2 f fd ["self", "at"] (spGet0 C) := by
  refine F.ok sc_Schema___getitem__ (fun vs H Q E h => ?_) (fun cdv A up s H vs Q E hr h => ?_)
  · obtain ⟨p, ts, zs, x, rfl, _⟩ := h
    rfl
  · obtain ⟨p, ts, zs, x, rfl, S, hx, k⟩ := h
    obtain ⟨dx, d, t, h1, h2, h3⟩ := S.ex
    have hu := hu_of hr
    refine ⟨_, pss_cons (ps_if (pt_cmpR (op_notInO i1 i2 FC (hr.mono (by decide)) pass0) (pv 1) (pv 0) (by rfl))
        (pss_one ps_nope) pss_nil)
      (pss_one (ps_ret (pe_dget hu (pe_fld (pv 0) rfl) (pv 1) (fun _ _ => rfl)))), ?_⟩
    walk_at "rr"
    refine ⟨p, dx, _, rfl, h1, p, ts, zs, _, rfl, S, .inl ⟨_, rfl, _, rfl, ?_⟩⟩
    rw [decide_eq_true (show x.2.nm ∈ namesOf ts from List.mem_map.mpr ⟨x, hx, rfl⟩)]
    walk_at "rr"
    refine ⟨_, rfl, p, C, dx, _, _, rfl, h1, T.cl, T.nN, flds_named _ _, ?_⟩
    walk_at "rr"
    exact k_dgS h2 (kvs_get S.nd hx) k
def spCells (C : Addr) : Sp := fun vs H Q _ => ∃ (p r : Addr) (ts zs : List AT) (refs : List Use), vs = [.ref p, .ref r] ∧ SchAt C H p ts zs ∧ DT H (.ref r) (.tuple (refs.map useD)) ∧ refs.length ≤ 2 ∧ (∀ x ∈ refs, ∃ t ∈ ts, t.2.nm = x.2) ∧
  ∀ (a : Addr) (H' : Hp), DT H' (.ref a) (.tuple ((usesOf ts refs).map useD)) → Same H H' → Q (.ref a) H'
theorem ok_cells {f : Addr} {fd : FuncData} (F : Fun K "cells_of" "cells_of" s_cells_of f fd) (T : Txt K C) (S0 : Sch P w K mg base C) (z_tuple : mg "tuple" = none) : FnOk P w K mg base CX0 4 f fd ["schema", "references"] (spCells C) := by
  have nd := sc_cells_of.nd
  obtain ⟨fg, g1, g2, g3, FG⟩ := S0.gi
  refine F.ok sc_cells_of (fun vs H Q E h => ?_) (fun cdv A up s H vs Q E hr h => ?_)
  · obtain ⟨p, r, ts, zs, refs, rfl, _⟩ := h
    rfl
  · obtain ⟨p, r, ts, zs, refs, rfl, S, hr', lr, hin, k⟩ := h
    obtain ⟨r', rs, e, hrs, drs⟩ := hr'.unT
    cases e
    have lrs : rs.length = refs.length := by rw [drs.len, List.length_map]
    refine ⟨_, (pss_one (ps_ret (pe_callTy call_tuple_of (by rfl) z_tuple (by decide +kernel) (pa_cons (pe_lc2 (own := [("alias", 3), ("table", 4), ("column", 2)]) (vs1 := [2]) (g := (gTup K 2 (gCons (gName 3) (gCons (gName 4) gNil)))) (g1 := (gName 2)) (tt := tYes) (tt1 := tYes) (wi1 := (iTup K (tOp _ (tIxO C (spGet0 C) (fun _ => E0) (tVar 0) (tVar 4)) (tC (.int 1))))) (te := (tTup (tCons (tVar 3) (tCons (tVar 2) tNil)))) (by rfl) nd (pi_tup (pv 1)) (blkOk_by (own := [("alias", 3), ("table", 4), ("column", 2)]) (N := ["schema", "references", "column", "alias", "table"]) (sc := defScope s_cells_of) (by decide +kernel)) (by decide) (fun _ _ _ _ _ => by exact (pg_tup rfl (pgs_cons (pg_name (i := 3) nd rfl (Or.inl rfl)) (pgs_cons (pg_name (i := 4) nd rfl (Or.inl rfl)) pgs_nil)))) (fun _ _ _ _ _ => by exact pts_nil) (fun _ _ _ _ _ => by exact (pi_tup (pe_ix (ix_seqK (K := K) rfl) (pe_ixO (E := fun _ => E0) g1 g2 g3 FG (hr.mono (by decide)) (fun _ _ _ _ _ _ _ h => h.elim) (pv 0) (pv 4)) pe_int (fun _ _ => rfl)))) (fun _ _ _ _ _ => by exact (pg_name (i := 2) nd rfl (Or.inl rfl))) (fun _ _ _ _ _ => by exact pts_nil) (fun _ _ _ _ _ => by exact (pe_tup (pa_cons (pv 3) (pa_cons (pv 2) pa_nil))))) pa_nil)))), ?_⟩
    walk_at "rr"
    refine ⟨r, rfl, ⟨_, SqT.of hrs⟩, fun D hD => ?_⟩
    refine loop_it (walk_tup (xs := rs)) (fun i H' => ∃ vs, H' D = some (.lst vs) ∧ DTs H' vs ((usesOf ts (refs.take i)).map useD) ∧ Same H H' ∧ vs.length ≤ 3 * i) ⟨[], upd_same, .nil, Same.upd hD, Nat.zero_le _⟩ (fun i H' _ h => ?_) (fun i x H1 H2 hi h y => ?_) (fun H1 h => ?_)
    · obtain ⟨_, _, _, s1, _⟩ := h
      exact SqT.of (s1 _ _ hrs)
    · obtain ⟨vs, hDv, dv, s1, lv⟩ := h
      obtain ⟨rfl, y⟩ := y
      obtain ⟨u, q, hu, rfl, hq⟩ := uses_at (drs.keep (Tups.same s1)) y
      obtain ⟨t, ht, hn⟩ := hin u (List.mem_of_getElem? hu)
      have S1 := S.same s1
      obtain ⟨cA, iA, kA, h1, h2, _, _⟩ := (S1.ok t ht).1
      have c3 := (S1.ok t ht).2.c3
      have ec : colsOf ts u.2 = t.2.cs := by rw [← hn]; exact col_of S.nd ht
      have tk : usesOf ts (refs.take (i + 1)) = usesOf ts (refs.take i) ++ t.2.cs.map fun c => (u.1, c) := by
        rw [List.take_add_one, hu]
        show usesOf ts (refs.take i ++ [u]) = _
        rw [usesOf_snoc, ec]
      refine k_gTup (SqT.of hq) rfl ?_
      walk_at "rr"
      refine ⟨rfl, k_yes ?_⟩
      walk_at "rr"
      obtain ⟨dx, _, _, hp, _, _⟩ := S1.ex
      refine ⟨p, dx, _, rfl, hp, ⟨p, ts, zs, t, by rw [hn], S1, ht, ?_⟩⟩
      walk_at "rr"
      refine ⟨cA, rfl, ⟨_, SqT.of h2⟩, ?_⟩
      refine loop_it (walk_tup (xs := t.2.cs.map V.str)) (fun j H' => ∃ vs, H' D = some (.lst vs) ∧ DTs H' vs ((usesOf ts (refs.take i) ++ (t.2.cs.take j).map fun c => (u.1, c)).map useD) ∧ Same H H' ∧ vs.length ≤ 3 * i + j ∧ H' cA = some (.tup (t.2.cs.map V.str))) ⟨vs, hDv, by simpa using dv, s1, by omega, h2⟩ (fun j H' _ h => ?_) (fun j x H3 H4 hj h y => ?_) (fun H3 h => ?_)
      · obtain ⟨_, _, _, _, _, h⟩ := h
        exact SqT.of h
      · obtain ⟨ws, hDw, dw, s3, lw, hc3⟩ := h
        obtain ⟨rfl, y⟩ := y
        have e : (t.2.cs.map V.str)[j]? = some x := y
        rw [List.getElem?_map] at e
        obtain ⟨c, hc, rfl⟩ := Option.map_eq_some_iff.mp e
        walk_at "rr"
        refine ⟨rfl, k_yes ?_⟩
        walk_at "rr"
        refine ⟨k_sz rfl, fun a ha => ?_⟩
        have hD4 := lk_new (o := .tup [.str u.1, .str c]) hDw ha
        have hj3 : j < t.2.cs.length := (List.getElem?_eq_some_iff.mp hc).1
        have hi3 : i < refs.length := (List.getElem?_eq_some_iff.mp hu).1
        have tu : Tups H4 (upd (upd H4 a (.tup [.str u.1, .str c])) D (.lst (ws ++ [V.ref a]))) := (tups_new ha).trans (tups_upd hD4 fun _ z => by cases z)
        refine ⟨_, hD4, k_szL (by omega), ws ++ [.ref a], upd_same, ?_, same_off (s3.trans (Same.upd ha)) hD, by rw [List.length_append]; simp; omega, tu _ _ hc3⟩
        have e2 : (t.2.cs.take (j + 1)).map (fun c => (u.1, c)) = (t.2.cs.take j).map (fun c => (u.1, c)) ++ [(u.1, c)] := by rw [List.take_add_one, hc]; simp
        rw [e2, ← List.append_assoc, List.map_append]
        have nq : a ≠ D := fun z => by rw [z, hDw] at ha; cases ha
        refine (dw.keep tu).app (.cons (.tup (xs := [.str u.1, .str c]) ?_ (.cons (.str _) (.cons (.str _) .nil))) .nil)
        rw [upd_ne nq]
        exact upd_same
      · obtain ⟨ws, hDw, dw, s3, lw, hc3⟩ := h
        rw [List.length_map] at dw lw
        rw [List.take_length] at dw
        exact ⟨ws, hDw, by rw [tk]; exact dw, s3, by omega⟩
    · obtain ⟨vs, hDv, dv, s1, lv⟩ := h
      rw [lrs, List.take_length] at dv
      walk_at "rr"
      refine ⟨D, vs, rfl, .inl ⟨SqL.of hDv, fun a ha => ?_⟩⟩
      exact k a _ (.tup upd_same (dv.keep (tups_new ha))) (s1.trans (Same.upd ha))
def spBusy : Sp := fun vs H Q _ => ∃ (t : Str) (r : Addr) (refs : List Use), vs = [.str t, .ref r] ∧ DT H (.ref r) (.tuple (refs.map useD)) ∧ refs.length ≤ 2 ∧ ∀ (a : Addr) (H' : Hp), H' a = some (.tup ((t :: refs.map (·.2)).map V.str)) → Same H H' → Q (.ref a) H'
theorem ok_busy {f : Addr} {fd : FuncData} (F : Fun K "_busy_tables" "_busy_tables" s__busy_tables f fd) : FnOk P w K mg base CX0 1 f fd ["table", "references"] spBusy := by
  have nd := sc__busy_tables.nd
  refine F.ok sc__busy_tables (fun vs H Q E h => ?_) (fun cdv A up s H vs Q E hr h => ?_)
  · obtain ⟨t, r, refs, rfl, _⟩ := h
    rfl
  · obtain ⟨t, r, refs, rfl, hr', lr, k⟩ := h
    obtain ⟨r', rs, e, hrs, drs⟩ := hr'.unT
    cases e
    have lrs : rs.length = refs.length := by rw [drs.len, List.length_map]
    refine ⟨_, (pss_one (ps_ret (pe_tup (pa_cons (pv 0) (StX.pa_star (pe_lc (own := [("_", 2), ("name", 3)]) (g := (gTup K 2 (gCons (gName 2) (gCons (gName 3) gNil)))) (tt := tYes) (te := (tVar 3)) (by rfl) nd (pi_tup (pv 1)) (blkOk_by (own := [("_", 2), ("name", 3)]) (N := ["table", "references", "_", "name"]) (sc := defScope s__busy_tables) (by decide +kernel)) (fun _ _ _ _ _ => by exact (pg_tup rfl (pgs_cons (pg_name (i := 2) nd rfl (Or.inl rfl)) (pgs_cons (pg_name (i := 3) nd rfl (Or.inl rfl)) pgs_nil)))) (fun _ _ _ _ _ => by exact pts_nil) (fun _ _ _ _ _ => by exact (pv 3))) pa_nil))))), ?_⟩
    walk_at "rr"
    refine ⟨r, rfl, ⟨_, SqT.of hrs⟩, fun D hD => ?_⟩
    refine lc_same (walk_tup (xs := rs)) (fun i => ((refs.map fun u => V.str u.2)[i]?).getD .non) (fun _ => true) (by omega) hD (fun H2 s2 => SqT.of (s2 _ _ hrs)) (fun i x H2 H3 hi s2 y Q1 R1 q1 _ => ?_) fun H2 s2 hD1 => ?_
    · obtain ⟨rfl, y⟩ := y
      obtain ⟨u, q, hu, rfl, hq⟩ := uses_at (drs.keep (Tups.same s2)) y
      refine k_gTup (SqT.of hq) rfl ?_
      walk_at "rr"
      refine ⟨rfl, k_yes ?_⟩
      walk_at "rr"
      have q2 := q1 rfl _ (Same.refl _)
      rw [List.getElem?_map, hu] at q2
      exact q2
    · rw [range_all] at hD1
      have el : ((List.range rs.length).map fun i => ((refs.map fun u => V.str u.2)[i]?).getD .non) = refs.map fun u => V.str u.2 := by
        refine List.ext_getElem (by simp [lrs]) fun i h1 h2 => ?_
        simp at h1 h2
        simp [h2]
      rw [el] at hD1
      walk_at "rr"
      refine ⟨D, _, rfl, .inr (SqL.of hD1), ?_⟩
      walk_at "rr"
      refine ⟨k_szL (by simp; omega), fun a ha => ?_⟩
      refine k a _ (by rw [upd_same]; simp) (s2.trans (Same.upd ha))
def spRefs (C : Addr) : Sp := fun vs H Q _ => ∃ (p r : Addr) (kind tb : Str) (ts zs : List AT) (refs : List Use), vs = [.ref p, .str kind, .str tb, .ref r] ∧ SchAt C H p ts zs ∧ DT H (.ref r) (.tuple (refs.map useD)) ∧ 1 ≤ refs.length ∧ refs.length ≤ 2 ∧ (∀ x ∈ refs, isNameB x.1 = true ∧ ∃ t ∈ ts, t.2.nm = x.2) ∧
  (refs.map (·.1)).Nodup ∧ (kind ≠ "insert" → ∀ r, refs[0]? = some r → r.2 = tb) ∧ ∀ H', Same H H' → Q (.bl true) H'
theorem ok_refs {f : Addr} {fd : FuncData} {t : Tok} (F : Fun K "_are_references" "_are_references" s__are_references f fd) (S0 : Sch P w K mg base C) (C_is_name : CalF P w K mg base "is_name" 1 ["thing"] spName) (C_is_tuple : CalF P w K mg base "is_tuple" 1 ["thing", "size"] spTuple)
    (C__are_few : CalF P w K mg base "_are_few" 1 ["thing", "most"] spFew) (c_MOST_REFERENCES : mg "MOST_REFERENCES" = some (.int 2 t)) (z_all : mg "all" = none) (z_len : mg "len" = none) (z_set : mg "set" = none) :
    FnOk P w K mg base CX0 2 f fd ["schema", "kind", "table", "thing"] (spRefs C) := by
  have nd := sc__are_references.nd
  obtain ⟨fc, i1, i2, FC⟩ := S0.ci
  refine F.ok sc__are_references (fun vs H Q E h => ?_) (fun cdv A up s H vs Q E hr h => ?_)
  · obtain ⟨p, r, kind, tb, ts, zs, refs, rfl, _⟩ := h
    rfl
  · obtain ⟨p, r, kind, tb, ts, zs, refs, rfl, S, hr', l1, l2, hin, hnd, hk, k⟩ := h
    have hr2 := hr'
    obtain ⟨r', rs, e, hrs, drs⟩ := hr'.unT
    cases e
    have lrs : rs.length = refs.length := by rw [drs.len, List.length_map]
    have okr : UsOk refs := fun u hu => ⟨(hin u hu).1, by
      obtain ⟨t, ht, hn⟩ := (hin u hu).2
      rw [← hn]
      exact (S.ok t ht).2.nm⟩
    refine ⟨_, (pss_cons (ps_if (PW.pt (pw_or (pt_not (pt_val (pe_cf C__are_few (hr.mono (by decide)) (pa_cons (pv 3) (pa_cons (pe_glob (v := .int 2) rfl c_MOST_REFERENCES ⟨_, rfl⟩) pa_nil))))) (pw_or1 (pt_cmpR (op_eqD hr.units) (pv 3) (pe_tup pa_nil) (nomark _))))) (pss_one (ps_ret pe_bl)) pss_nil)
        (pss_cons (ps_if (pt_not (pt_val (pe_callB (cr_all rfl) (by rfl) z_all (by decide +kernel) (pa_cons (pe_lc (own := [("some", 4)]) (g := (gName 4)) (tt := tYes) (te := (tAndV (tCall _ [] E0 (tCons (tVar 4) (tCons (tC (.int 2)) tNil))) (tAndV (tCall _ [] E0 (tCons (tOp _ (tVar 4) (tC (.int 0))) tNil)) (tOp _ (tOp _ (tVar 4) (tC (.int 1))) (tVar 0))))) (by rfl) nd (pi_tup (pv 3)) (blkOk_by (own := [("some", 4)]) (N := ["schema", "kind", "table", "thing", "some", "alias", "_"]) (sc := defScope s__are_references) (by decide +kernel)) (fun _ _ _ _ _ => by exact (pg_name (i := 4) nd rfl (Or.inl rfl))) (fun _ _ _ _ _ => by exact pts_nil) (fun _ _ _ _ _ => by exact (pe_and (pe_cf C_is_tuple (hr.mono (by decide)) (pa_cons (pv 4) (pa_cons pe_int pa_nil))) (pe_and (pe_cf C_is_name (hr.mono (by decide)) (pa_cons (pe_ix (ix_seqK (K := K) rfl) (pv 4) pe_int (fun _ _ => rfl)) pa_nil)) (pe_one (pe_cmpR (op_inO i1 i2 FC (hr.mono (by decide)) pass0) (pe_ix (ix_seqK (K := K) rfl) (pv 4) pe_int (fun _ _ => rfl)) (pv 0) (by rfl))))))) pa_nil)))) (pss_one (ps_ret pe_bl)) pss_nil)
        (pss_cons (ps_if (pt_cmpR op_lt (pe_callB call_lenK (by rfl) z_len (by decide +kernel) (pa_cons (pe_callTy (call_setS rfl) (by rfl) z_set (by decide +kernel) (pa_cons (pe_lc (own := [("alias", 5), ("_", 6)]) (g := (gTup K 2 (gCons (gName 5) (gCons (gName 6) gNil)))) (tt := tYes) (te := (tVar 5)) (by rfl) nd (pi_tup (pv 3)) (blkOk_by (own := [("alias", 5), ("_", 6)]) (N := ["schema", "kind", "table", "thing", "some", "alias", "_"]) (sc := defScope s__are_references) (by decide +kernel)) (fun _ _ _ _ _ => by exact (pg_tup rfl (pgs_cons (pg_name (i := 5) nd rfl (Or.inl rfl)) (pgs_cons (pg_name (i := 6) nd rfl (Or.inl rfl)) pgs_nil)))) (fun _ _ _ _ _ => by exact pts_nil) (fun _ _ _ _ _ => by exact (pv 5))) pa_nil)) pa_nil)) (pe_callB (c_lenK (K := K) rfl) (by rfl) z_len (by decide +kernel) (pa_cons (pv 3) pa_nil)) (nomark _)) (pss_one (ps_ret pe_bl)) pss_nil)
        (pss_one (ps_ret (pe_or (pe_cmpR op_eq (pv 1) pe_str (nomark _)) (pe_one (pe_cmpR op_eq (pe_ix ix_seq (pe_ix ix_seq (pv 3) pe_int (fun _ _ => rfl)) pe_int (fun _ _ => rfl)) (pv 2) (nomark _))))))))), ?_⟩
    walk_at "rr"
    refine ⟨r, rs, 2, rfl, hrs, by omega, ?_⟩
    walk_at "rr"
    refine ⟨k_sz rfl, fun e0 he0 => ?_⟩
    have s1 : Same H (upd H e0 (.tup [])) := Same.upd he0
    have z0 : upd H e0 (.tup []) e0 = some (.tup []) := upd_same
    generalize upd H e0 (.tup []) = H1 at s1 z0 ⊢
    walk_at "rr"
    refine ⟨_, .tuple [], (hr2.keep (Tups.same s1)).dp, .tup (SqT.of z0) .nil, uses_shaped okr, by decide, ?_⟩
    rw [uses_ne l1]
    walk_at "rr"
    have hrs1 := s1 _ _ hrs
    refine ⟨r, rfl, ⟨_, SqT.of hrs1⟩, fun D hD => ?_⟩
    refine lc_same (walk_tup (xs := rs)) (fun _ => .bl true) (fun _ => true) (by omega) hD (fun H2 s2 => SqT.of (s2 _ _ hrs1)) (fun i z H2 H3 hi s2 y Q1 R1 q1 _ => ?_) fun H2 s2 hD1 => ?_
    · obtain ⟨rfl, y⟩ := y
      have s12 := s1.trans s2
      obtain ⟨u, q, hu, rfl, hq⟩ := uses_at (drs.keep (Tups.same s12)) y
      have mu := List.mem_of_getElem? hu
      obtain ⟨t, ht, hn⟩ := (hin u mu).2
      walk_at "rr"
      refine ⟨rfl, k_yes ?_⟩
      walk_at "rr"
      refine ⟨q, _, rfl, hq, ?_⟩
      walk_at "rr"
      refine ⟨u.1, rfl, (hin u mu).1, fun H4 s4 => ?_⟩
      have S4 := S.same (s12.trans s4)
      obtain ⟨dx, _, _, hp, _, _⟩ := S4.ex
      have hq4 := s4 _ _ hq
      walk_at "rr"
      refine ⟨p, dx, _, rfl, hp, p, ts, zs, _, rfl, S4, .inl ⟨_, rfl, _, rfl, ?_⟩⟩
      rw [decide_eq_true (show u.2 ∈ namesOf ts from List.mem_map.mpr ⟨t, ht, hn⟩)]
      exact q1 rfl _ s4
    · rw [range_all] at hD1
      walk_at "rr"
      refine ⟨D, (List.range rs.length).map fun _ => true, rfl, SqL.of (by rw [hD1, List.map_map]; rfl), ?_⟩
      rw [all_true]
      walk_at "rr"
      have hrs2 := s2 _ _ hrs1
      have s12 := s1.trans s2
      refine ⟨r, rfl, ⟨_, SqT.of hrs2⟩, fun D2 hD2 => ?_⟩
      refine lc_same (walk_tup (xs := rs)) (fun i => (((refs.map (·.1)).map V.str)[i]?).getD .non) (fun _ => true) (by omega) hD2 (fun H4 s4 => SqT.of (s4 _ _ hrs2)) (fun i z H4 H5 hi s4 y Q1 R1 q1 _ => ?_) fun H4 s4 hD4 => ?_
      · obtain ⟨rfl, y⟩ := y
        obtain ⟨u, q, hu, rfl, hq⟩ := uses_at (drs.keep (Tups.same (s12.trans s4))) y
        refine k_gTup (SqT.of hq) rfl ?_
        walk_at "rr"
        refine ⟨rfl, k_yes ?_⟩
        walk_at "rr"
        have q2 := q1 rfl _ (Same.refl _)
        rw [List.getElem?_map, List.getElem?_map, hu] at q2
        exact q2
      · rw [range_all] at hD4
        have el : ((List.range rs.length).map fun i => (((refs.map (·.1)).map V.str)[i]?).getD .non) = (refs.map (·.1)).map V.str := by
          refine List.ext_getElem (by simp [lrs]) fun i h1 h2 => ?_
          simp at h1 h2
          simp [h2]
        rw [el] at hD4
        walk_at "rr"
        refine ⟨D2, refs.map (·.1), rfl, .inl (SqL.of hD4), by rw [List.length_map]; omega, fun g c hg hc => ?_⟩
        walk_at "rr"
        refine ⟨g, _, _, rfl, upd_same, ?_⟩
        walk_at "rr"
        obtain rfl := hc.2.mpr hnd
        have s14 := s12.trans s4
        generalize hH5 : upd H4 g _ = H5
        have s15 : Same H H5 := hH5 ▸ s14.trans (Same.upd hg)
        refine k_iteD (fun y => absurd y (by rw [List.length_map]; omega)) fun _ => ?_
        walk_at "rr"
        by_cases ek : kind = "insert"
        · rw [decide_eq_true (congrArg V.str ek)]
          walk_at "rr"
          exact k _ s15
        · rw [decide_eq_false (fun z => ek (V.str.inj z))]
          walk_at "rr"
          have hrs5 := s15 _ _ hrs
          obtain ⟨v0, hv0⟩ : ∃ v, rs[0]? = some v := ⟨_, List.getElem?_eq_getElem (by omega)⟩
          obtain ⟨u, q, hu, rfl, hq⟩ := uses_at (drs.keep (Tups.same s15)) hv0
          refine k_ixqT (SqT.of hrs5) (atI_nat (j := 0) hv0) ?_
          walk_at "rr"
          rw [decide_eq_true (congrArg V.str (hk ek u hu))]
          exact k _ s15
end
end K11

set_option Elab.async false
set_option maxRecDepth 100000
set_option maxHeartbeats 4000000
set_option linter.unusedVariables false
namespace K11
open PySem PySem.Spec PyProof.Rows L2 Own
-- steps
local macro_rules | `(tactic| walk_at "lk") => `(tactic| first
  | assumption | exact upd_same
  | ((with_reducible refine' lk_new ?e (by assumption)); (case e => walk_at "lk"))
  | ((with_reducible refine' lk_ext (by assumption) ?e); (case e => walk_at "lk"))
  | ((with_reducible refine' lk_same (by assumption) ?e); (case e => walk_at "lk")))
local macro_rules | `(tactic| walk_at "sq") => `(tactic| first | assumption | exact SqL.of (by walk_at "lk") | exact SqT.of (by walk_at "lk"))
local macro_rules | `(tactic| walk_at "r1") => `(tactic| first
  | with_reducible refine k_seq ?_ | with_reducible refine k_asg ?_ | with_reducible refine k_ret ?_ | with_reducible refine k_drop ?_ | with_reducible refine k_next ?_ | with_reducible refine k_ifS ?_
  | ((with_reducible refine' k_var ?e ?_); (case e => exact rfl)) | with_reducible refine k_c ?_ | with_reducible refine k_op ?_ | with_reducible refine k_un ?_ | with_reducible refine k_test ?_ | with_reducible refine k_B ?_
  | with_reducible refine k_and ?_ | with_reducible refine k_or ?_ | with_reducible refine k_not ?_ | with_reducible refine k_andV ?_ | with_reducible refine k_orV ?_ | with_reducible refine k_notV ?_ | with_reducible refine k_if ?_
  | with_reducible refine k_nil ?_ | with_reducible refine k_cons ?_ | with_reducible refine k_tup ?_ | with_reducible refine k_lst ?_ | with_reducible refine k_call ?_ | with_reducible refine k_cb ?_ | with_reducible refine k_ck ?_
  | with_reducible refine k_par ?_ | with_reducible refine k_par1 ?_ | with_reducible refine k_tr ?_ | with_reducible refine k_rI0 ?_ | with_reducible refine k_rU ?_
  | with_reducible refine k_gN ?_ | with_reducible refine k_gS ?_ | with_reducible refine k_gNil ?_ | with_reducible refine k_gCons ?_ | with_reducible refine k_bm0 ?_ | with_reducible refine k_bm ?_
  | with_reducible refine k_for ?_ | with_reducible refine k_iL ?_ | with_reducible refine k_iT ?_ | with_reducible refine k_iR1 ?_ | ((with_reducible refine k_iR1i ?e ?_); (case e => first | decide | exact ⟨by omega, by omega⟩))
  | with_reducible refine k_max ?_ | with_reducible refine k_isB ?_ | with_reducible refine k_sl ?_ | with_reducible refine k_noP ?_ | with_reducible refine k_part ?_ | with_reducible refine k_partI ?_ | with_reducible refine k_revL ?_
  | ((with_reducible refine' k_ixqT ?e ?f ?_); (case e => walk_at "sq"); (case f => first | exact rfl | exact atI_head))
  | ((with_reducible refine' k_ixqL ?e ?f ?_); (case e => walk_at "sq"); (case f => first | exact rfl | exact atI_head))
  | ((with_reducible refine' k_lenL ?e ?_); (case e => walk_at "sq"))
  | ((with_reducible refine' k_lenT ?e ?_); (case e => walk_at "sq"))
  | ((with_reducible refine' k_ixL ?e ?f ?_); (case e => walk_at "sq"); (case f => first | exact rfl | exact atI_head))
  | ((with_reducible refine' k_ixT ?e ?f ?_); (case e => walk_at "sq"); (case f => first | exact rfl | exact atI_head))
  | ((with_reducible refine k_eq ?e ?_); (case e => exact rfl)) | ((with_reducible refine k_ne ?e ?_); (case e => exact rfl))
  | ((with_reducible refine k_rI ?e ?_); (case e => first | assumption | omega | decide | exact ⟨by omega, by omega⟩ | exact .inl ⟨by omega, by omega⟩ | exact .inr ⟨by omega, by omega⟩)))
local macro_rules | `(tactic| walk_at "rd") => `(tactic| repeat walk_at "r1")
local macro_rules | `(tactic| walk_at "r2") => `(tactic| first
  | walk_at "r1"
  | with_reducible refine k_ifTt ?_ | with_reducible refine k_ifFf ?_ | with_reducible refine k_ifNt ?_ | with_reducible refine k_ifNf ?_
  | with_reducible refine k_makeR ?_ | with_reducible refine k_tJ ?_ | with_reducible refine k_tJc ?_ | with_reducible refine k_tJn ?_ | with_reducible refine k_fmt ?_ | with_reducible refine k_lc ?_ | with_reducible refine k_din ?_ | with_reducible refine k_fld ?_ | with_reducible refine k_dget ?_
  | with_reducible refine k_dput ?_
  | with_reducible refine k_isNv ?_
  | with_reducible refine k_notNv ?_
  | with_reducible refine k_str ?_
  | with_reducible refine k_enumT ?_
  | with_reducible refine k_zipA ?_
  | with_reducible refine k_chain ?_
  | ((with_reducible refine' k_dgS ?e dkv_cells ?_); (case e => walk_at "lk"))
  | ((with_reducible refine' k_dgS ?e dkv_mixed ?_); (case e => walk_at "lk"))
  | ((with_reducible refine' k_dgS ?e dkv_turn ?_); (case e => walk_at "lk")))
local macro_rules | `(tactic| walk_at "rr") => `(tactic| repeat walk_at "r2")
local macro_rules | `(tactic| walk_at "r2") => `(tactic| first
  | with_reducible refine k_lc2 ?_ | with_reducible refine k_scT ?_ | with_reducible refine k_ixO ?_ | with_reducible refine k_star ?_)
-- steps end
def words2 : List Str := ["some", "none"]
section
variable {P : Program} {w : World} {K : PySem.W.Frag} {mg : Str → Option Value} {base : Heap} {C : Addr}
abbrev s__is_probe : Stmt := top 29
theorem sc__is_probe : FnScope ["schema", "cells", "busy", "thing", "columns", "word", "table", "own", "link", "some"] ["schema", "cells", "busy", "thing"] (defScope s__is_probe) :=
  ⟨rfl, rfl, rfl, by decide +kernel, rfl, by decide +kernel, by decide +kernel⟩
abbrev s__are_probes : Stmt := top 28
theorem sc__are_probes : FnScope ["schema", "cells", "busy", "thing", "probe"] ["schema", "cells", "busy", "thing"] (defScope s__are_probes) :=
  ⟨rfl, rfl, rfl, by decide +kernel, rfl, by decide +kernel, by decide +kernel⟩
/-- a probe that may stand -/
def PrbFit (ts : List AT) (us : List Use) (busy : List Str) (q : Prb) : Prop := ∃ x ∈ ts, q.In x.2 us ∧ x.2.ks = [] ∧ ¬ q.tb ∈ busy
def spProb (C : Addr) : Sp := fun vs H Q _ => ∃ (p ce b a : Addr) (ts zs : List AT) (us : List Use) (busy : List Str) (q : Prb), vs = [.ref p, .ref ce, .ref b, .ref a] ∧ SchAt C H p ts zs ∧ DT H (.ref ce) (.tuple (us.map useD)) ∧ UsOk us ∧ H b = some (.tup (busy.map V.str)) ∧ DT H (.ref a) q.d ∧ PrbFit ts us busy q ∧
  ∀ H', Same H H' → Q (.bl true) H'
theorem ok_prob {f : Addr} {fd : FuncData} {t : Tok} {a_WORDS : Addr} (F : Fun K "_is_probe" "_is_probe" s__is_probe f fd) (S0 : Sch P w K mg base C) (C_is_tuple : CalF P w K mg base "is_tuple" 1 ["thing", "size"] spTuple)
    (C__are_few : CalF P w K mg base "_are_few" 1 ["thing", "most"] spFew) (C__is_own : CalF P w K mg base "_is_own" 2 ["columns", "thing"] spOwn) (C__is_link : CalF P w K mg base "_is_link" 2 ["columns", "cells", "thing"] spLink)
    (c_MOST_OWN : mg "MOST_OWN" = some (.int 2 t)) (c_WORDS : mg "WORDS" = some (.ref a_WORDS)) (e_WORDS : ∀ H, SqT K H a_WORDS (words2.map V.str)) (z_all : mg "all" = none) :
    FnOk P w K mg base CX0 4 f fd ["schema", "cells", "busy", "thing"] (spProb C) := by
  have nd := sc__is_probe.nd
  obtain ⟨fc, i1, i2, FC⟩ := S0.ci
  obtain ⟨fg, g1, g2, g3, FG⟩ := S0.gi
  refine F.ok sc__is_probe (fun vs H Q E h => ?_) (fun cdv A up s H vs Q E hr h => ?_)
  · obtain ⟨p, ce, b, a, ts, zs, us, busy, q, rfl, _⟩ := h
    rfl
  · obtain ⟨p, ce, b, a, ts, zs, us, busy, q, rfl, S, hce, uok, hb, hq, ⟨x, hx, qi, qk, qb⟩, k⟩ := h
    obtain ⟨a', o, l, os, y, e, ha, ho, dos, hl, hy⟩ := prb_at hq
    cases e
    obtain ⟨cA, iA, kA, h1, h2, _, h4⟩ := (S.ok x hx).1
    have los : os.length = q.own.length := by rw [dos.len, List.length_map]
    have ol := qi.ol
    have wd : q.word ∈ words2 := by
      rcases qi.wd with e | e <;> rw [e] <;> simp [words2]
    obtain ⟨dx, _, _, hp, _, _⟩ := S.ex
    refine ⟨_, (pss_cons (ps_if (pt_not (pt_val (pe_cf C_is_tuple (hr.mono (by decide)) (pa_cons (pv 3) (pa_cons pe_int pa_nil))))) (pss_one (ps_ret pe_bl)) pss_nil)
        (pss_cons (ps_asg (pv 3) (pg_tup rfl (pgs_cons (pg_name (i := 5) nd rfl (Or.inl rfl)) (pgs_cons (pg_name (i := 6) nd rfl (Or.inl rfl)) (pgs_cons (pg_name (i := 7) nd rfl (Or.inl rfl)) (pgs_cons (pg_name (i := 8) nd rfl (Or.inl rfl)) pgs_nil))))))
        (pss_cons (ps_if (PW.pt (pw_or (pt_cmpR op_notIn_seq (pv 5) (pe_glob (v := .ref a_WORDS) rfl c_WORDS rfl) (by rfl)) (pw_or (pt_cmpR (op_notInO i1 i2 FC (hr.mono (by decide)) pass0) (pv 6) (pv 0) (by rfl)) (pw_or (pt_cmpR op_in_seq (pv 6) (pv 2) (by rfl)) (pw_or1 (pt_cmpR (op_neD hr.units) (pe_ix ix_seq (pe_ixO (E := fun _ => E0) g1 g2 g3 FG (hr.mono (by decide)) (fun _ _ _ _ _ _ _ h => h.elim) (pv 0) (pv 6)) pe_int (fun _ _ => rfl)) (pe_tup pa_nil) (nomark _))))))) (pss_one (ps_ret pe_bl)) pss_nil)
        (pss_cons (ps_set (i := 4) nd rfl (Or.inr rfl) (pe_ix ix_seq (pe_ixO (E := fun _ => E0) g1 g2 g3 FG (hr.mono (by decide)) (fun _ _ _ _ _ _ _ h => h.elim) (pv 0) (pv 6)) pe_int (fun _ _ => rfl)))
        (pss_cons (ps_if (PW.pt (pw_or (pt_not (pt_val (pe_cf C__are_few (hr.mono (by decide)) (pa_cons (pv 7) (pa_cons (pe_glob (v := .int 2) rfl c_MOST_OWN ⟨_, rfl⟩) pa_nil))))) (pw_or1 (pt_not (pt_val (pe_callB (cr_all rfl) (by rfl) z_all (by decide +kernel) (pa_cons (pe_lc (own := [("some", 9)]) (g := (gName 9)) (tt := tYes) (te := (tCall _ [] E0 (tCons (tVar 4) (tCons (tVar 9) tNil)))) (by rfl) nd (pi_tup (pv 7)) (blkOk_by (own := [("some", 9)]) (N := ["schema", "cells", "busy", "thing", "columns", "word", "table", "own", "link", "some"]) (sc := defScope s__is_probe) (by decide +kernel)) (fun _ _ _ _ _ => by exact (pg_name (i := 9) nd rfl (Or.inl rfl))) (fun _ _ _ _ _ => by exact pts_nil) (fun _ _ _ _ _ => by exact (pe_cf C__is_own (hr.mono (by decide)) (pa_cons (pv 4) (pa_cons (pv 9) pa_nil))))) pa_nil))))))) (pss_one (ps_ret pe_bl)) pss_nil)
        (pss_one (ps_ret (pe_cf C__is_link (hr.mono (by decide)) (pa_cons (pv 4) (pa_cons (pv 1) (pa_cons (pv 8) pa_nil))))))))))), ?_⟩
    walk_at "rr"
    refine ⟨a, _, rfl, ha, ?_⟩
    walk_at "rr"
    refine k_gTup (SqT.of ha) rfl ?_
    walk_at "rr"
    refine ⟨_, _, rfl, .inr (e_WORDS H), rfl, flat_strs _, ?_⟩
    rw [if_pos (by decide), inV_str wd]
    walk_at "rr"
    have tn : q.tb ∈ namesOf ts := List.mem_map.mpr ⟨x, hx, qi.tb.symm⟩
    refine ⟨p, dx, _, rfl, hp, p, ts, zs, _, rfl, S, .inl ⟨_, rfl, _, rfl, ?_⟩⟩
    rw [decide_eq_true tn]
    walk_at "rr"
    refine ⟨_, _, rfl, .inr (SqT.of hb), rfl, flat_strs _, ?_⟩
    rw [if_neg (by decide), inV_strs, decide_eq_false qb]
    walk_at "rr"
    refine ⟨p, dx, _, rfl, hp, p, ts, zs, x, by rw [qi.tb], S, hx, ?_⟩
    walk_at "rr"
    refine ⟨k_sz rfl, fun e0 he0 => ?_⟩
    have s1 : Same H (upd H e0 (.tup [])) := Same.upd he0
    have z0 : upd H e0 (.tup []) e0 = some (.tup []) := upd_same
    generalize upd H e0 (.tup []) = H1 at s1 z0 ⊢
    have h41 := s1 _ _ h4
    rw [qk] at h41
    walk_at "rr"
    refine ⟨.tuple [], .tuple [], .tup (SqT.of h41) .nil, .tup (SqT.of z0) .nil, by decide, by decide, ?_⟩
    rw [show (PyData.tuple []).eqv (PyData.tuple []) = true from rfl]
    walk_at "rr"
    obtain ⟨_, _, _, hp1, _, _⟩ := (S.same s1).ex
    refine ⟨p, _, _, rfl, hp1, p, ts, zs, x, by rw [qi.tb], S.same s1, hx, ?_⟩
    walk_at "rr"
    refine ⟨o, os, 2, rfl, s1 _ _ ho, by omega, ?_⟩
    walk_at "rr"
    refine ⟨o, rfl, ⟨_, SqT.of (s1 _ _ ho)⟩, fun D hD => ?_⟩
    refine lc_same (walk_tup (xs := os)) (fun _ => .bl true) (fun _ => true) (by omega) hD (fun H2 s2 => SqT.of (s2 _ _ (s1 _ _ ho))) (fun i z H2 H3 hi s2 y Q1 R1 q1 _ => ?_) fun H2 s2 hD1 => ?_
    · obtain ⟨rfl, y⟩ := y
      obtain ⟨d, e1, e2⟩ := (dos.keep (Tups.same (s1.trans s2))).at_ y
      rw [List.getElem?_map] at e1
      obtain ⟨c, hc, rfl⟩ := Option.map_eq_some_iff.mp e1
      obtain ⟨ca, cy, rfl, _⟩ := cmp_at e2
      walk_at "rr"
      refine ⟨rfl, k_yes ?_⟩
      walk_at "rr"
      exact ⟨cA, ca, x.2.cs, c, rfl, s2 _ _ (s1 _ _ h2), e2, qi.ow c (List.mem_of_getElem? hc), q1 rfl _ (Same.refl _)⟩
    · rw [range_all] at hD1
      walk_at "rr"
      refine ⟨D, (List.range os.length).map fun _ => true, rfl, SqL.of (by rw [hD1, List.map_map]; rfl), ?_⟩
      rw [all_true]
      walk_at "rr"
      have s12 := s1.trans s2
      exact ⟨cA, ce, l, x.2.cs, us, q, y, rfl, s12 _ _ h2, hce.keep (Tups.same s12), s12 _ _ hl, hy.keep (Tups.same s12), qi.cl, qi.op, qi.us, uok, k _ s12⟩
def spProbs (C : Addr) : Sp := fun vs H Q _ => ∃ (p ce b a : Addr) (ts zs : List AT) (us : List Use) (busy : List Str) (qs : List Prb), vs = [.ref p, .ref ce, .ref b, .ref a] ∧ SchAt C H p ts zs ∧ DT H (.ref ce) (.tuple (us.map useD)) ∧ UsOk us ∧ H b = some (.tup (busy.map V.str)) ∧ DT H (.ref a) (.tuple (qs.map Prb.d)) ∧ (∀ q ∈ qs, PrbFit ts us busy q) ∧ qs.length ≤ 2 ∧
  (qs.map Prb.tb).Nodup ∧ ∀ H', Same H H' → Q (.bl true) H'
theorem ok_probs {f : Addr} {fd : FuncData} {t : Tok} (F : Fun K "_are_probes" "_are_probes" s__are_probes f fd)
    (C__are_few : CalF P w K mg base "_are_few" 1 ["thing", "most"] spFew) (C__is_probe : CalF P w K mg base "_is_probe" 4 ["schema", "cells", "busy", "thing"] (spProb C))
    (c_MOST_PROBES : mg "MOST_PROBES" = some (.int 2 t)) (z_all : mg "all" = none) (z_len : mg "len" = none) (z_set : mg "set" = none) :
    FnOk P w K mg base CX0 5 f fd ["schema", "cells", "busy", "thing"] (spProbs C) := by
  have nd := sc__are_probes.nd
  refine F.ok sc__are_probes (fun vs H Q E h => ?_) (fun cdv A up s H vs Q E hr h => ?_)
  · obtain ⟨p, ce, b, a, ts, zs, us, busy, qs, rfl, _⟩ := h
    rfl
  · obtain ⟨p, ce, b, a, ts, zs, us, busy, qs, rfl, S, hce, uok, hb, hqs, hfit, lq, hnd, k⟩ := h
    obtain ⟨a', os, e, ha, dos⟩ := hqs.unT
    cases e
    have los : os.length = qs.length := by rw [dos.len, List.length_map]
    refine ⟨_, (pss_cons (ps_if (PW.pt (pw_or (pt_not (pt_val (pe_cf C__are_few (hr.mono (by decide)) (pa_cons (pv 3) (pa_cons (pe_glob (v := .int 2) rfl c_MOST_PROBES ⟨_, rfl⟩) pa_nil))))) (pw_or1 (pt_not (pt_val (pe_callB (cr_all rfl) (by rfl) z_all (by decide +kernel) (pa_cons (pe_lc (own := [("probe", 4)]) (g := (gName 4)) (tt := tYes) (te := (tCall _ [] E0 (tCons (tVar 0) (tCons (tVar 1) (tCons (tVar 2) (tCons (tVar 4) tNil)))))) (by rfl) nd (pi_tup (pv 3)) (blkOk_by (own := [("probe", 4)]) (N := ["schema", "cells", "busy", "thing", "probe"]) (sc := defScope s__are_probes) (by decide +kernel)) (fun _ _ _ _ _ => by exact (pg_name (i := 4) nd rfl (Or.inl rfl))) (fun _ _ _ _ _ => by exact pts_nil) (fun _ _ _ _ _ => by exact (pe_cf C__is_probe (hr.mono (by decide)) (pa_cons (pv 0) (pa_cons (pv 1) (pa_cons (pv 2) (pa_cons (pv 4) pa_nil))))))) pa_nil))))))) (pss_one (ps_ret pe_bl)) pss_nil)
        (pss_one (ps_ret (pe_cmpR op_eq (pe_callB call_lenK (by rfl) z_len (by decide +kernel) (pa_cons (pe_callTy (call_setS rfl) (by rfl) z_set (by decide +kernel) (pa_cons (pe_lc (own := [("probe", 4)]) (g := (gName 4)) (tt := tYes) (te := (tOp _ (tVar 4) (tC (.int 1)))) (by rfl) nd (pi_tup (pv 3)) (blkOk_by (own := [("probe", 4)]) (N := ["schema", "cells", "busy", "thing", "probe"]) (sc := defScope s__are_probes) (by decide +kernel)) (fun _ _ _ _ _ => by exact (pg_name (i := 4) nd rfl (Or.inl rfl))) (fun _ _ _ _ _ => by exact pts_nil) (fun _ _ _ _ _ => by exact (pe_ix (ix_seqK (K := K) rfl) (pv 4) pe_int (fun _ _ => rfl)))) pa_nil)) pa_nil)) (pe_callB (c_lenK (K := K) rfl) (by rfl) z_len (by decide +kernel) (pa_cons (pv 3) pa_nil)) (nomark _))))), ?_⟩
    walk_at "rr"
    refine ⟨a, os, 2, rfl, ha, by omega, ?_⟩
    walk_at "rr"
    refine ⟨a, rfl, ⟨_, SqT.of ha⟩, fun D hD => ?_⟩
    refine lc_same (walk_tup (xs := os)) (fun _ => .bl true) (fun _ => true) (by omega) hD (fun H2 s2 => SqT.of (s2 _ _ ha)) (fun i z H2 H3 hi s2 y Q1 R1 q1 _ => ?_) fun H2 s2 hD1 => ?_
    · obtain ⟨rfl, y⟩ := y
      obtain ⟨d, e1, e2⟩ := (dos.keep (Tups.same s2)).at_ y
      rw [List.getElem?_map] at e1
      obtain ⟨c, hc, rfl⟩ := Option.map_eq_some_iff.mp e1
      obtain ⟨ca, _, _, _, _, rfl, _⟩ := prb_at e2
      walk_at "rr"
      refine ⟨rfl, k_yes ?_⟩
      walk_at "rr"
      exact ⟨p, ce, b, ca, ts, zs, us, busy, c, rfl, S.same s2, hce.keep (Tups.same s2), uok, s2 _ _ hb, e2, hfit c (List.mem_of_getElem? hc), fun H4 s4 => q1 rfl _ s4⟩
    · rw [range_all] at hD1
      walk_at "rr"
      refine ⟨D, (List.range os.length).map fun _ => true, rfl, SqL.of (by rw [hD1, List.map_map]; rfl), ?_⟩
      rw [all_true]
      walk_at "rr"
      have ha2 := s2 _ _ ha
      refine ⟨a, rfl, ⟨_, SqT.of ha2⟩, fun D2 hD2 => ?_⟩
      refine lc_same (walk_tup (xs := os)) (fun i => (((qs.map Prb.tb).map V.str)[i]?).getD .non) (fun _ => true) (by omega) hD2 (fun H4 s4 => SqT.of (s4 _ _ ha2)) (fun i z H4 H5 hi s4 y Q1 R1 q1 _ => ?_) fun H4 s4 hD4 => ?_
      · obtain ⟨rfl, y⟩ := y
        obtain ⟨d, e1, e2⟩ := (dos.keep (Tups.same (s2.trans s4))).at_ y
        rw [List.getElem?_map] at e1
        obtain ⟨c, hc, rfl⟩ := Option.map_eq_some_iff.mp e1
        obtain ⟨ca, _, _, _, _, rfl, hca, _⟩ := prb_at e2
        walk_at "rr"
        refine ⟨rfl, k_yes ?_⟩
        walk_at "rr"
        have q2 := q1 rfl _ (Same.refl _)
        rw [List.getElem?_map, List.getElem?_map, hc] at q2
        exact q2
      · rw [range_all] at hD4
        have el : ((List.range os.length).map fun i => (((qs.map Prb.tb).map V.str)[i]?).getD .non) = (qs.map Prb.tb).map V.str := by
          refine List.ext_getElem (by simp [los]) fun i h1 h2 => ?_
          simp at h1 h2
          simp [h2]
        rw [el] at hD4
        walk_at "rr"
        have ha4 := s4 _ _ ha2
        refine ⟨D2, qs.map Prb.tb, rfl, .inl (SqL.of hD4), by rw [List.length_map]; omega, fun g c hg hc => ?_⟩
        walk_at "rr"
        refine ⟨g, _, _, rfl, upd_same, ?_⟩
        walk_at "rr"
        obtain rfl := hc.2.mpr hnd
        rw [decide_eq_true (by rw [List.length_map, los])]
        exact k _ ((s2.trans s4).trans (Same.upd hg))
end
end K11

set_option Elab.async false
set_option maxRecDepth 100000
set_option maxHeartbeats 4000000
set_option linter.unusedVariables false
namespace K11
open PySem PySem.Spec PyProof.Rows L2 Own
-- steps
local macro_rules | `(tactic| walk_at "lk") => `(tactic| first
  | assumption | exact upd_same
  | ((with_reducible refine' lk_new ?e (by assumption)); (case e => walk_at "lk"))
  | ((with_reducible refine' lk_ext (by assumption) ?e); (case e => walk_at "lk"))
  | ((with_reducible refine' lk_same (by assumption) ?e); (case e => walk_at "lk")))
local macro_rules | `(tactic| walk_at "sq") => `(tactic| first | assumption | exact SqL.of (by walk_at "lk") | exact SqT.of (by walk_at "lk"))
local macro_rules | `(tactic| walk_at "r1") => `(tactic| first
  | with_reducible refine k_seq ?_ | with_reducible refine k_asg ?_ | with_reducible refine k_ret ?_ | with_reducible refine k_drop ?_ | with_reducible refine k_next ?_ | with_reducible refine k_ifS ?_
  | ((with_reducible refine' k_var ?e ?_); (case e => exact rfl)) | with_reducible refine k_c ?_ | with_reducible refine k_op ?_ | with_reducible refine k_un ?_ | with_reducible refine k_test ?_ | with_reducible refine k_B ?_
  | with_reducible refine k_and ?_ | with_reducible refine k_or ?_ | with_reducible refine k_not ?_ | with_reducible refine k_andV ?_ | with_reducible refine k_orV ?_ | with_reducible refine k_notV ?_ | with_reducible refine k_if ?_
  | with_reducible refine k_nil ?_ | with_reducible refine k_cons ?_ | with_reducible refine k_tup ?_ | with_reducible refine k_lst ?_ | with_reducible refine k_call ?_ | with_reducible refine k_cb ?_ | with_reducible refine k_ck ?_
  | with_reducible refine k_par ?_ | with_reducible refine k_par1 ?_ | with_reducible refine k_tr ?_ | with_reducible refine k_rI0 ?_ | with_reducible refine k_rU ?_
  | with_reducible refine k_gN ?_ | with_reducible refine k_gS ?_ | with_reducible refine k_gNil ?_ | with_reducible refine k_gCons ?_ | with_reducible refine k_bm0 ?_ | with_reducible refine k_bm ?_
  | with_reducible refine k_for ?_ | with_reducible refine k_iL ?_ | with_reducible refine k_iT ?_ | with_reducible refine k_iR1 ?_ | ((with_reducible refine k_iR1i ?e ?_); (case e => first | decide | exact ⟨by omega, by omega⟩))
  | with_reducible refine k_max ?_ | with_reducible refine k_isB ?_ | with_reducible refine k_sl ?_ | with_reducible refine k_noP ?_ | with_reducible refine k_part ?_ | with_reducible refine k_partI ?_ | with_reducible refine k_revL ?_
  | ((with_reducible refine' k_ixqT ?e ?f ?_); (case e => walk_at "sq"); (case f => first | exact rfl | exact atI_head))
  | ((with_reducible refine' k_ixqL ?e ?f ?_); (case e => walk_at "sq"); (case f => first | exact rfl | exact atI_head))
  | ((with_reducible refine' k_lenL ?e ?_); (case e => walk_at "sq"))
  | ((with_reducible refine' k_lenT ?e ?_); (case e => walk_at "sq"))
  | ((with_reducible refine' k_ixL ?e ?f ?_); (case e => walk_at "sq"); (case f => first | exact rfl | exact atI_head))
  | ((with_reducible refine' k_ixT ?e ?f ?_); (case e => walk_at "sq"); (case f => first | exact rfl | exact atI_head))
  | ((with_reducible refine k_eq ?e ?_); (case e => exact rfl)) | ((with_reducible refine k_ne ?e ?_); (case e => exact rfl))
  | ((with_reducible refine k_rI ?e ?_); (case e => first | assumption | omega | decide | exact ⟨by omega, by omega⟩ | exact .inl ⟨by omega, by omega⟩ | exact .inr ⟨by omega, by omega⟩)))
local macro_rules | `(tactic| walk_at "rd") => `(tactic| repeat walk_at "r1")
local macro_rules | `(tactic| walk_at "r2") => `(tactic| first
  | walk_at "r1"
  | with_reducible refine k_ifTt ?_ | with_reducible refine k_ifFf ?_ | with_reducible refine k_ifNt ?_ | with_reducible refine k_ifNf ?_
  | with_reducible refine k_makeR ?_ | with_reducible refine k_tJ ?_ | with_reducible refine k_tJc ?_ | with_reducible refine k_tJn ?_ | with_reducible refine k_fmt ?_ | with_reducible refine k_lc ?_ | with_reducible refine k_din ?_ | with_reducible refine k_fld ?_ | with_reducible refine k_dget ?_
  | with_reducible refine k_dput ?_
  | with_reducible refine k_isNv ?_
  | with_reducible refine k_notNv ?_
  | with_reducible refine k_str ?_
  | with_reducible refine k_enumT ?_
  | with_reducible refine k_zipA ?_
  | with_reducible refine k_chain ?_
  | ((with_reducible refine' k_dgS ?e dkv_cells ?_); (case e => walk_at "lk"))
  | ((with_reducible refine' k_dgS ?e dkv_mixed ?_); (case e => walk_at "lk"))
  | ((with_reducible refine' k_dgS ?e dkv_turn ?_); (case e => walk_at "lk")))
local macro_rules | `(tactic| walk_at "rr") => `(tactic| repeat walk_at "r2")
local macro_rules | `(tactic| walk_at "r2") => `(tactic| first
  | with_reducible refine k_lc2 ?_ | with_reducible refine k_scT ?_ | with_reducible refine k_ixO ?_ | with_reducible refine k_star ?_)
-- steps end
theorem rd_same {H H' : Hp} (s : Same H H') {a : Addr} {u : HO} (h : Rd H a u) : Rd H' a u := h.imp (s _ _) fun ⟨o, e⟩ => ⟨o, s _ _ e⟩
mutual
theorem dp_same {K : PySem.W.Frag} {H H' : Hp} (s : Same H H') : ∀ {d : PyData} {v : V}, Dp K H v d → Dp K H' v d
  | .none, _, .non => .non
  | .bool _, _, .bl b => .bl b
  | .int _, _, .int i => .int i
  | .str _, _, .str x => .str x
  | .list _, _, .lst h a => .lst (h.imp_left (rd_same s)) (dps_same s a)
  | .tuple _, _, .tup h a => .tup (h.imp_left (rd_same s)) (dps_same s a)
theorem dps_same {K : PySem.W.Frag} {H H' : Hp} (s : Same H H') : ∀ {ds : List PyData} {vs : List V}, DpAll K H vs ds → DpAll K H' vs ds
  | [], _, .nil => .nil
  | _ :: _, _, .cons a b => .cons (dp_same s a) (dps_same s b)
end
theorem strs_lay : ∀ {zs : List Str}, (∀ z ∈ zs, isNameB z = true) → PyData.canLayAll0 (zs.map PyData.str) = true
  | [], _ => rfl
  | z :: zs, h => by
    show (PyData.strOk z && PyData.canLayAll0 (zs.map PyData.str)) = true
    rw [name_ok (h z List.mem_cons_self), strs_lay fun v hv => h v (List.mem_cons_of_mem _ hv)]
    rfl
theorem strs_depth : ∀ zs : List Str, PyData.depthAll (zs.map PyData.str) = 0
  | [] => rfl
  | z :: zs => by
    have ih := strs_depth zs
    show max 0 (PyData.depthAll (zs.map PyData.str)) = 0
    omega
theorem strs_shaped {zs : List Str} (h : ∀ z ∈ zs, isNameB z = true) : SeqAt.shaped (.tuple (zs.map PyData.str)) = true := by
  unfold SeqAt.shaped
  have l := strs_lay h
  have d := strs_depth zs
  rw [Bool.and_eq_true]
  refine ⟨l, decide_eq_true ?_⟩
  show PyData.depthAll (zs.map PyData.str) + 1 ≤ 64
  omega
theorem strs_ne {zs : List Str} (h : zs ≠ []) : PyData.eqv (.tuple (zs.map PyData.str)) (.tuple []) = false := by
  match zs, h with
  | _ :: _, _ => rfl
/-- where settings may take from -/
def tSrc (K : PySem.W.Frag) : TE := fun σ H Q => ∃ (t r ce a q0 : Addr) (kind a0 t0 : Str) (us : List Use) (rest : List V), σ = [some (.ref t), some (.str kind), some (.ref r), some (.ref ce), some (.ref a), none, none, none, none, none, none] ∧ DT H (.ref ce) (.tuple (us.map useD)) ∧ us.length ≤ 100 ∧
  H r = some (.tup (.ref q0 :: rest)) ∧ H q0 = some (.tup [.str a0, .str t0]) ∧
  ∀ (so : Addr) (H1 : Hp) (us' : List Use), Same H H1 → (Dp K H1 (.ref so) (.tuple (us'.map useD)) ∨ Dp K H1 (.ref so) (.list (us'.map useD))) → (∀ u ∈ us, (kind = "insert" ∨ u.1 = a0) → u ∈ us') → (∀ u ∈ us', u ∈ us) → Q (.ref so) H1
section
variable {P : Program} {w : World} {K : PySem.W.Frag} {mg : Str → Option Value} {base : Heap}
abbrev s__are_settings : Stmt := top 32
theorem sc__are_settings : FnScope ["table", "kind", "references", "cells", "thing", "sources", "columns", "cell", "some", "column", "_"] ["table", "kind", "references", "cells", "thing"] (defScope s__are_settings) :=
  ⟨rfl, rfl, rfl, by decide +kernel, rfl, by decide +kernel, by decide +kernel⟩
def spSets : Sp := fun vs H Q _ => ∃ (t r ce a : Addr) (kind : Str) (tt : T) (refs : List Use) (r0 : Use) (us : List Use) (sets : List Stg), vs = [.ref t, .str kind, .ref r, .ref ce, .ref a] ∧ TAt H t tt ∧ tt.Ok ∧ DT H (.ref r) (.tuple (refs.map useD)) ∧ refs[0]? = some r0 ∧ DT H (.ref ce) (.tuple (us.map useD)) ∧ UsOk us ∧ us.length ≤ 100 ∧
  DT H (.ref a) (.tuple (sets.map Stg.d)) ∧ SetsOk kind tt.cs us r0.1 sets ∧ (kind = "update" ∨ kind = "delete" ∨ kind = "insert") ∧ ∀ H', Same H H' → Q (.bl true) H'
theorem ok_sets {f : Addr} {fd : FuncData} (F : Fun K "_are_settings" "_are_settings" s__are_settings f fd) (C__is_setting : CalF P w K mg base "_is_setting" 2 ["columns", "sources", "thing"] (spSetting (K := K))) (C_is_ascending : CalF P w K mg base "is_ascending" 1 ["things"] spAsc)
    (z_isinstance : mg "isinstance" = none) (z_tuple : mg "tuple" = none) (z_all : mg "all" = none) : FnOk P w K mg base CX0 3 f fd ["table", "kind", "references", "cells", "thing"] spSets := by
  have nd := sc__are_settings.nd
  refine F.ok sc__are_settings (fun vs H Q E h => ?_) (fun cdv A up s H vs Q E hr h => ?_)
  · obtain ⟨t, r, ce, a, kind, tt, refs, r0, us, sets, rfl, _⟩ := h
    rfl
  · obtain ⟨t, r, ce, a, kind, tt, refs, r0, us, sets, rfl, ht, tok, hr', hr0, hce, uok, lus, hst, sok, hkind, k⟩ := h
    obtain ⟨a', os, e, ha, dos⟩ := hst.unT
    cases e
    obtain ⟨r', rs, e, hrs, drs⟩ := hr'.unT
    cases e
    obtain ⟨cA, iA, kA, h1, h2, _, _⟩ := ht
    have los : os.length = sets.length := by rw [dos.len, List.length_map]
    obtain ⟨q0, rest, rfl⟩ : ∃ q0 rest, rs = q0 :: rest := by
      have l := drs.len
      rw [List.length_map] at l
      have : 0 < refs.length := (List.getElem?_eq_some_iff.mp hr0).1
      match rs, l with
      | a :: b, _ => exact ⟨a, b, rfl⟩
      | [], l => simp at l; omega
    obtain ⟨u0, qa, hu0, rfl, hqa⟩ := uses_at drs (i := 0) rfl
    obtain rfl : r0 = u0 := by rw [hr0] at hu0; exact Option.some.inj hu0
    refine ⟨_, (pss_cons (ps_if (pt_not (pt_val (pe_callB call_isi (by rfl) z_isinstance (by decide +kernel) (pa_cons (pv 4) (pa_cons (pe_bltn (v := .ty "tuple") (by rfl) z_tuple PyProof.Rows.boot_tuple rfl) pa_nil))))) (pss_one (ps_ret pe_bl)) pss_nil)
        (pss_cons (ps_if (pt_cmpR op_eq (pv 1) pe_str (nomark _)) (pss_one (ps_ret (pe_cmpR (op_eqD hr.units) (pv 4) (pe_tup pa_nil) (nomark _)))) pss_nil)
        (pss_cons (ps_set (i := 5) nd rfl (Or.inr rfl) (PE_imp (pe_ifExp (pt_cmpR op_eq (pv 1) pe_str (nomark _)) (pv 3) (pe_lc (own := [("cell", 7)]) (g := (gName 7)) (tt := (tTest (tOp _ (tOp _ (tVar 7) (tC (.int 0))) (tOp _ (tOp _ (tVar 2) (tC (.int 0))) (tC (.int 0)))))) (te := (tVar 7)) (by rfl) nd (pi_tup (pv 3)) (blkOk_by (own := [("cell", 7)]) (N := ["table", "kind", "references", "cells", "thing", "sources", "columns", "cell", "some", "column", "_"]) (sc := defScope s__are_settings) (by decide +kernel)) (fun _ _ _ _ _ => by exact (pg_name (i := 7) nd rfl (Or.inl rfl))) (fun _ _ _ _ _ => by exact (pts_one (pt_cmpR op_eq (pe_ix (ix_seqK (K := K) rfl) (pv 7) pe_int (fun _ _ => rfl)) (pe_ix (ix_seqK (K := K) rfl) (pe_ix (ix_seqK (K := K) rfl) (pv 2) pe_int (fun _ _ => rfl)) pe_int (fun _ _ => rfl)) (nomark _)))) (fun _ _ _ _ _ => by exact (pv 7)))) (t' := (tSrc K)) (fun σ H Q h => ?tSrc)))
        (pss_cons (ps_if (pt_not (pt_val (pe_callB (cr_all rfl) (by rfl) z_all (by decide +kernel) (pa_cons (pe_lc (own := [("some", 8)]) (g := (gName 8)) (tt := tYes) (te := (tCall _ [] E0 (tCons (tOp _ (tVar 0) (tC (.int 1))) (tCons (tVar 5) (tCons (tVar 8) tNil))))) (by rfl) nd (pi_tup (pv 4)) (blkOk_by (own := [("some", 8)]) (N := ["table", "kind", "references", "cells", "thing", "sources", "columns", "cell", "some", "column", "_"]) (sc := defScope s__are_settings) (by decide +kernel)) (fun _ _ _ _ _ => by exact (pg_name (i := 8) nd rfl (Or.inl rfl))) (fun _ _ _ _ _ => by exact pts_nil) (fun _ _ _ _ _ => by exact (pe_cf C__is_setting (hr.mono (by decide)) (pa_cons (pe_ix (ix_seqK (K := K) rfl) (pv 0) pe_int (fun _ _ => rfl)) (pa_cons (pv 5) (pa_cons (pv 8) pa_nil)))))) pa_nil)))) (pss_one (ps_ret pe_bl)) pss_nil)
        (pss_cons (ps_set (i := 6) nd rfl (Or.inl rfl) (pe_callTy call_tuple_of (by rfl) z_tuple (by decide +kernel) (pa_cons (pe_lc (own := [("column", 9), ("_", 10)]) (g := (gTup K 3 (gCons (gName 9) (gCons (gName 10) (gCons (gName 10) gNil))))) (tt := tYes) (te := (tVar 9)) (by rfl) nd (pi_tup (pv 4)) (blkOk_by (own := [("column", 9), ("_", 10)]) (N := ["table", "kind", "references", "cells", "thing", "sources", "columns", "cell", "some", "column", "_"]) (sc := defScope s__are_settings) (by decide +kernel)) (fun _ _ _ _ _ => by exact (pg_tup rfl (pgs_cons (pg_name (i := 9) nd rfl (Or.inl rfl)) (pgs_cons (pg_name (i := 10) nd rfl (Or.inl rfl)) (pgs_cons (pg_name (i := 10) nd rfl (Or.inl rfl)) pgs_nil))))) (fun _ _ _ _ _ => by exact pts_nil) (fun _ _ _ _ _ => by exact (pv 9))) pa_nil)))
        (pss_cons (ps_if (pt_cmpR op_eq (pv 1) pe_str (nomark _)) (pss_one (ps_ret (pe_cmpR (op_eqD hr.units) (pv 6) (pe_ix (ix_seqK (K := K) rfl) (pv 0) pe_int (fun _ _ => rfl)) (nomark _)))) pss_nil)
        (pss_one (ps_ret (pe_and (pe_cmpR (op_neD hr.units) (pv 6) (pe_tup pa_nil) (nomark _)) (pe_one (pe_cf C_is_ascending (hr.mono (by decide)) (pa_cons (pv 6) pa_nil)))))))))))), ?_⟩
    case tSrc =>
      obtain ⟨t, r, ce, a, q0, kind, a0, t0, us, rest, rfl, hce, lus, hr, hq0, q⟩ := h
      walk_at "rr"
      refine k_iteD (fun e => ?_) fun e => ?_
      · walk_at "rr"
        obtain ⟨ce', xs, e', _⟩ := hce.unT
        cases e'
        exact q ce _ us (Same.refl _) (.inl hce.dp) (fun u hu _ => hu) fun u hu => hu
      · obtain ⟨ce', xs, e', hc, dxs⟩ := hce.unT
        cases e'
        have lxs : xs.length = us.length := by rw [dxs.len, List.length_map]
        walk_at "rr"
        refine ⟨ce, rfl, ⟨_, SqT.of hc⟩, fun D hD => ?_⟩
        refine lc_it (walk_tup (xs := xs)) (fun i H' => ∃ ws, H' D = some (.lst ws) ∧ DTs H' ws (((us.take i).filter fun u => decide (u.1 = a0)).map useD) ∧ Same H H' ∧ ws.length ≤ i) ⟨[], upd_same, .nil, Same.upd hD, Nat.zero_le _⟩ (fun i H' _ h => SqT.of (h.choose_spec.2.2.1 _ _ hc)) (fun i x H2 H3 hi h y => ?_) (fun H2 h => ?_)
        · obtain ⟨ws, hDw, dw, s2, lw⟩ := h
          obtain ⟨rfl, y⟩ := y
          obtain ⟨u, ua, hu, rfl, hua⟩ := uses_at (dxs.keep (Tups.same s2)) y
          have hr2 := s2 _ _ hr
          have hq2 := s2 _ _ hq0
          have tk : (us.take (i + 1)).filter (fun u => decide (u.1 = a0)) = (us.take i).filter (fun u => decide (u.1 = a0)) ++ (if u.1 = a0 then [u] else []) := by
            rw [List.take_add_one, hu, List.filter_append]
            congr 1
            by_cases h : u.1 = a0 <;> simp [h]
          walk_at "rr"
          refine ⟨rfl, ?_⟩
          walk_at "rr"
          refine k_iteD (fun e1 => ?_) fun e1 => ?_
          · have e1 : u.1 = a0 := V.str.inj e1
            walk_at "rr"
            have tu : Tups H3 (upd H3 D (.lst (ws ++ [V.ref ua]))) := tups_upd hDw fun _ z => by cases z
            refine ⟨ws, hDw, k_szL (by omega), ws ++ [.ref ua], upd_same, ?_, same_off s2 hD, by rw [List.length_append]; simp; omega⟩
            rw [tk, if_pos e1, List.map_append]
            exact (dw.keep tu).app (.cons (.tup (tu _ _ hua) (.cons (.str _) (.cons (.str _) .nil))) .nil)
          · have e1 : ¬ u.1 = a0 := fun z => e1 (congrArg V.str z)
            refine ⟨ws, hDw, ?_, s2, by omega⟩
            rw [tk, if_neg e1, List.append_nil]
            exact dw
        · obtain ⟨ws, hDw, dw, s2, lw⟩ := h
          rw [lxs, List.take_length] at dw
          refine q D _ _ s2 (.inr (.lst (SqL.of hDw) dw.dp)) (fun u hu hk => List.mem_filter.mpr ⟨hu, decide_eq_true (hk.resolve_left fun z => e (congrArg V.str z))⟩) fun u hu => (List.mem_filter.mp hu).1
    walk_at "rr"
    refine isi_t (.base (.tup ha)) (b := true) (by decide +kernel) ?_
    walk_at "rr"
    refine k_iteD (fun e => ?_) fun e => ?_
    · have e : kind = "delete" := V.str.inj e
      obtain rfl := sok.del e
      cases dos
      walk_at "rr"
      refine ⟨k_sz rfl, fun e0 he0 => ?_⟩
      refine ⟨.tuple [], .tuple [], .tup (SqT.of (lk_new ha he0)) .nil, .tup (SqT.of upd_same) .nil, by decide, by decide, ?_⟩
      rw [show (PyData.tuple []).eqv (PyData.tuple []) = true from rfl]
      exact k _ (Same.upd he0)
    · have nd1 : kind ≠ "delete" := fun z => e (congrArg V.str z)
      have hkd : kind = "update" ∨ kind = "insert" := by
        rcases hkind with h | h | h
        · exact .inl h
        · exact absurd h nd1
        · exact .inr h
      walk_at "rr"
      refine ⟨t, r, ce, a, qa, kind, _, _, us, rest, rfl, hce, lus, hrs, hqa, fun so H1 us' s1 hso h3 h4 => ?_⟩
      have uok' : UsOk us' := fun u hu => uok u (h4 u hu)
      have csub : ∀ z ∈ sets.map Stg.col, z ∈ tt.cs := fun z hz => by
        rcases hkd with h | h
        · exact (sok.upd h).2.2 z hz
        · rw [sok.ins h] at hz
          exact hz
      have ssrc : ∀ s ∈ sets, ∀ u, s.src = some u → u ∈ us' := fun s hs u hu => by
        have q := (sok.src s hs).2 u hu
        refine h3 u q.1 ?_
        rcases hkd with h | h
        · exact .inr (q.2 (by rw [h]; decide +kernel))
        · exact .inl h
      have lsets : sets.length ≤ 3 := by
        have c3 := tok.c3
        rcases hkd with h | h
        · have := some_len (sok.upd h).2.1 (sok.upd h).2.2
          rw [List.length_map] at this
          omega
        · have : (sets.map Stg.col).length = tt.cs.length := by rw [sok.ins h]
          rw [List.length_map] at this
          omega
      have ha1 := s1 _ _ ha
      have h11 := s1 _ _ h1
      have h21 := s1 _ _ h2
      walk_at "rr"
      refine ⟨a, rfl, ⟨_, SqT.of ha1⟩, fun D hD => ?_⟩
      refine lc_same (walk_tup (xs := os)) (fun _ => .bl true) (fun _ => true) (by omega) hD (fun H2 s2 => SqT.of (s2 _ _ ha1)) (fun i z H2 H3 hi s2 y Q1 R1 q1 _ => ?_) fun H2 s2 hD1 => ?_
      · obtain ⟨rfl, y⟩ := y
        obtain ⟨d, e1, e2⟩ := (dos.keep (Tups.same (s1.trans s2))).at_ y
        rw [List.getElem?_map] at e1
        obtain ⟨c, hc, rfl⟩ := Option.map_eq_some_iff.mp e1
        obtain ⟨ca, cy, rfl, _⟩ := stg_at e2
        have mc := List.mem_of_getElem? hc
        have h12 := s2 _ _ h11
        walk_at "rr"
        refine ⟨rfl, k_yes ?_⟩
        walk_at "rr"
        exact ⟨cA, so, ca, tt.cs, us', c, rfl, s2 _ _ h21, hso.imp (dp_same s2) (dp_same s2), e2, csub _ (List.mem_map.mpr ⟨c, mc, rfl⟩), ssrc c mc, uok', q1 rfl _ (Same.refl _)⟩
      · rw [range_all] at hD1
        walk_at "rr"
        refine ⟨D, (List.range os.length).map fun _ => true, rfl, SqL.of (by rw [hD1, List.map_map]; rfl), ?_⟩
        rw [all_true]
        walk_at "rr"
        have s12 := s1.trans s2
        have ha2 := s12 _ _ ha
        refine ⟨a, rfl, ⟨_, SqT.of ha2⟩, fun D2 hD2 => ?_⟩
        refine lc_same (walk_tup (xs := os)) (fun i => (((sets.map Stg.col).map V.str)[i]?).getD .non) (fun _ => true) (by omega) hD2 (fun H4 s4 => SqT.of (s4 _ _ ha2)) (fun i z H4 H5 hi s4 y Q1 R1 q1 _ => ?_) fun H4 s4 hD4 => ?_
        · obtain ⟨rfl, y⟩ := y
          obtain ⟨d, e1, e2⟩ := (dos.keep (Tups.same (s12.trans s4))).at_ y
          rw [List.getElem?_map] at e1
          obtain ⟨c, hc, rfl⟩ := Option.map_eq_some_iff.mp e1
          obtain ⟨ca, cy, rfl, hca, _⟩ := stg_at e2
          refine k_gTup (SqT.of hca) rfl ?_
          walk_at "rr"
          refine ⟨rfl, k_yes ?_⟩
          walk_at "rr"
          have q2 := q1 rfl _ (Same.refl _)
          rw [List.getElem?_map, List.getElem?_map, hc] at q2
          exact q2
        · rw [range_all] at hD4
          have el : ((List.range os.length).map fun i => (((sets.map Stg.col).map V.str)[i]?).getD .non) = (sets.map Stg.col).map V.str := by
            refine List.ext_getElem (by simp [los]) fun i h1 h2 => ?_
            simp at h1 h2
            simp [h2]
          rw [el] at hD4
          walk_at "rr"
          refine ⟨D2, _, rfl, .inl ⟨SqL.of hD4, fun co hco => ?_⟩⟩
          have s14 := s12.trans s4
          generalize hH5 : upd H4 co _ = H5
          have g5 : H5 co = some (.tup ((sets.map Stg.col).map V.str)) := hH5 ▸ upd_same
          have s15 : Same H H5 := hH5 ▸ s14.trans (Same.upd hco)
          have h15 := s15 _ _ h1
          have h25 := s15 _ _ h2
          walk_at "rr"
          refine k_iteD (fun e2 => ?_) fun e2 => ?_
          · have e2 : kind = "insert" := V.str.inj e2
            walk_at "rr"
            have ec := sok.ins e2
            rw [ec] at g5
            have sh := strs_shaped tok.cn
            refine ⟨_, _, .tup (SqT.of g5) (DTs.strs _).dp, .tup (SqT.of h25) (DTs.strs _).dp, sh, sh, ?_⟩
            rw [SeqAt.eqv_refl _ (SeqAt.canLay_of_shaped sh)]
            exact k _ s15
          · have e2 : kind = "update" := hkd.resolve_right fun z => e2 (congrArg V.str z)
            walk_at "rr"
            refine ⟨k_sz rfl, fun e0 he0 => ?_⟩
            have sh := strs_shaped (zs := sets.map Stg.col) fun z hz => tok.cn z (csub z hz)
            have ne : sets.map Stg.col ≠ [] := fun z => (sok.upd e2).1 (List.map_eq_nil_iff.mp z)
            refine ⟨_, .tuple [], .tup (SqT.of (lk_new g5 he0)) (DTs.strs _).dp, .tup (SqT.of upd_same) .nil, sh, by decide, ?_⟩
            rw [strs_ne ne]
            walk_at "rr"
            exact ⟨co, _, rfl, lk_new g5 he0, by rw [List.length_map]; omega, (sok.upd e2).2.1, fun H6 s6 => k _ ((s15.trans (Same.upd he0)).trans s6)⟩
end
end K11

set_option Elab.async false
set_option maxRecDepth 100000
set_option maxHeartbeats 4000000
set_option linter.unusedVariables false
namespace K11
open PySem PySem.Spec PyProof.Rows L2 Own
-- steps
local macro_rules | `(tactic| walk_at "lk") => `(tactic| first
  | assumption | exact upd_same
  | ((with_reducible refine' lk_new ?e (by assumption)); (case e => walk_at "lk"))
  | ((with_reducible refine' lk_ext (by assumption) ?e); (case e => walk_at "lk"))
  | ((with_reducible refine' lk_same (by assumption) ?e); (case e => walk_at "lk")))
local macro_rules | `(tactic| walk_at "sq") => `(tactic| first | assumption | exact SqL.of (by walk_at "lk") | exact SqT.of (by walk_at "lk"))
local macro_rules | `(tactic| walk_at "r1") => `(tactic| first
  | with_reducible refine k_seq ?_ | with_reducible refine k_asg ?_ | with_reducible refine k_ret ?_ | with_reducible refine k_drop ?_ | with_reducible refine k_next ?_ | with_reducible refine k_ifS ?_
  | ((with_reducible refine' k_var ?e ?_); (case e => exact rfl)) | with_reducible refine k_c ?_ | with_reducible refine k_op ?_ | with_reducible refine k_un ?_ | with_reducible refine k_test ?_ | with_reducible refine k_B ?_
  | with_reducible refine k_and ?_ | with_reducible refine k_or ?_ | with_reducible refine k_not ?_ | with_reducible refine k_andV ?_ | with_reducible refine k_orV ?_ | with_reducible refine k_notV ?_ | with_reducible refine k_if ?_
  | with_reducible refine k_nil ?_ | with_reducible refine k_cons ?_ | with_reducible refine k_tup ?_ | with_reducible refine k_lst ?_ | with_reducible refine k_call ?_ | with_reducible refine k_cb ?_ | with_reducible refine k_ck ?_
  | with_reducible refine k_par ?_ | with_reducible refine k_par1 ?_ | with_reducible refine k_tr ?_ | with_reducible refine k_rI0 ?_ | with_reducible refine k_rU ?_
  | with_reducible refine k_gN ?_ | with_reducible refine k_gS ?_ | with_reducible refine k_gNil ?_ | with_reducible refine k_gCons ?_ | with_reducible refine k_bm0 ?_ | with_reducible refine k_bm ?_
  | with_reducible refine k_for ?_ | with_reducible refine k_iL ?_ | with_reducible refine k_iT ?_ | with_reducible refine k_iR1 ?_ | ((with_reducible refine k_iR1i ?e ?_); (case e => first | decide | exact ⟨by omega, by omega⟩))
  | with_reducible refine k_max ?_ | with_reducible refine k_isB ?_ | with_reducible refine k_sl ?_ | with_reducible refine k_noP ?_ | with_reducible refine k_part ?_ | with_reducible refine k_partI ?_ | with_reducible refine k_revL ?_
  | ((with_reducible refine' k_ixqT ?e ?f ?_); (case e => walk_at "sq"); (case f => first | exact rfl | exact atI_head))
  | ((with_reducible refine' k_ixqL ?e ?f ?_); (case e => walk_at "sq"); (case f => first | exact rfl | exact atI_head))
  | ((with_reducible refine' k_lenL ?e ?_); (case e => walk_at "sq"))
  | ((with_reducible refine' k_lenT ?e ?_); (case e => walk_at "sq"))
  | ((with_reducible refine' k_ixL ?e ?f ?_); (case e => walk_at "sq"); (case f => first | exact rfl | exact atI_head))
  | ((with_reducible refine' k_ixT ?e ?f ?_); (case e => walk_at "sq"); (case f => first | exact rfl | exact atI_head))
  | ((with_reducible refine k_eq ?e ?_); (case e => exact rfl)) | ((with_reducible refine k_ne ?e ?_); (case e => exact rfl))
  | ((with_reducible refine k_rI ?e ?_); (case e => first | assumption | omega | decide | exact ⟨by omega, by omega⟩ | exact .inl ⟨by omega, by omega⟩ | exact .inr ⟨by omega, by omega⟩)))
local macro_rules | `(tactic| walk_at "rd") => `(tactic| repeat walk_at "r1")
local macro_rules | `(tactic| walk_at "r2") => `(tactic| first
  | walk_at "r1"
  | with_reducible refine k_ifTt ?_ | with_reducible refine k_ifFf ?_ | with_reducible refine k_ifNt ?_ | with_reducible refine k_ifNf ?_
  | with_reducible refine k_makeR ?_ | with_reducible refine k_tJ ?_ | with_reducible refine k_tJc ?_ | with_reducible refine k_tJn ?_ | with_reducible refine k_fmt ?_ | with_reducible refine k_lc ?_ | with_reducible refine k_din ?_ | with_reducible refine k_fld ?_ | with_reducible refine k_dget ?_
  | with_reducible refine k_dput ?_
  | with_reducible refine k_isNv ?_
  | with_reducible refine k_notNv ?_
  | with_reducible refine k_str ?_
  | with_reducible refine k_enumT ?_
  | with_reducible refine k_zipA ?_
  | with_reducible refine k_chain ?_
  | ((with_reducible refine' k_dgS ?e dkv_cells ?_); (case e => walk_at "lk"))
  | ((with_reducible refine' k_dgS ?e dkv_mixed ?_); (case e => walk_at "lk"))
  | ((with_reducible refine' k_dgS ?e dkv_turn ?_); (case e => walk_at "lk")))
local macro_rules | `(tactic| walk_at "rr") => `(tactic| repeat walk_at "r2")
local macro_rules | `(tactic| walk_at "r2") => `(tactic| first
  | with_reducible refine k_lc2 ?_ | with_reducible refine k_scT ?_ | with_reducible refine k_ixO ?_ | with_reducible refine k_star ?_)
-- steps end
abbrev kinds : List Str := ["update", "delete", "insert"]
/-- the parts of a right statement -/
structure Fit (ts : List AT) (p : Pt) : Prop where
  kind : p.kind = "update" ∨ p.kind = "delete" ∨ p.kind = "insert"
  tb : ∃ t ∈ ts, p.tb = t.2.nm ∧ ∀ r, p.refs[0]? = some r → SetsOk p.kind t.2.cs (usesOf ts p.refs) r.1 p.sets
  r1 : 1 ≤ p.refs.length
  r2 : p.refs.length ≤ 2
  al : (p.refs.map (·.1)).Nodup
  an : ∀ r ∈ p.refs, isNameB r.1 = true
  rt : ∀ r ∈ p.refs, ∃ x ∈ ts, x.2.nm = r.2
  hd : p.kind ≠ "insert" → ∀ r, p.refs[0]? = some r → r.2 = p.tb
  cl : p.conds.length ≤ 5
  cs : ∀ c ∈ p.conds, c.In (usesOf ts p.refs)
  pl : p.probes.length ≤ 2
  pn : (p.probes.map Prb.tb).Nodup
  ps : ∀ q ∈ p.probes, PrbFit ts (usesOf ts p.refs) (p.tb :: p.refs.map (·.2)) q
  tl : p.told.length ≤ 4
  td : ∀ u ∈ p.told, u ∈ usesOf ts p.refs
theorem cols_ok {ts : List AT} (ok : ∀ x ∈ ts, x.2.Ok) (nm : Str) : (∀ z ∈ colsOf ts nm, isNameB z = true) ∧ (colsOf ts nm).length ≤ 3 := by
  unfold colsOf
  cases ef : ts.find? (fun x => decide (x.2.nm = nm)) with
  | none => exact ⟨(fun z hz => by cases hz), Nat.zero_le _⟩
  | some x =>
    have q := ok x (List.mem_of_find?_eq_some ef)
    exact ⟨q.cn, q.c3⟩
theorem uses_ok {ts : List AT} (ok : ∀ x ∈ ts, x.2.Ok) {refs : List Use} (an : ∀ r ∈ refs, isNameB r.1 = true) : UsOk (usesOf ts refs) := fun u hu => by
  unfold usesOf at hu
  obtain ⟨r, hr, hu⟩ := List.mem_flatMap.mp hu
  obtain ⟨c, hc, rfl⟩ := List.mem_map.mp hu
  exact ⟨an r hr, (cols_ok ok r.2).1 c hc⟩
theorem pt_at {H : Hp} {v : V} {p : Pt} (h : DT H v p.d) : ∃ a r c q s t : Addr, v = .ref a ∧ H a = some (.tup [.str p.kind, .str p.tb, .ref r, .ref c, .ref q, .ref s, .ref t]) ∧ DT H (.ref r) (.tuple (p.refs.map useD)) ∧ DT H (.ref c) (.tuple (p.conds.map Cond.d)) ∧ DT H (.ref q) (.tuple (p.probes.map Prb.d)) ∧
    DT H (.ref s) (.tuple (p.sets.map Stg.d)) ∧ DT H (.ref t) (.tuple (p.told.map useD)) := by
  obtain ⟨a, xs, rfl, ha, hs⟩ := h.unT
  cases hs with
  | cons h1 hs => cases hs with
    | cons h2 hs => cases hs with
      | cons h3 hs => cases hs with
        | cons h4 hs => cases hs with
          | cons h5 hs => cases hs with
            | cons h6 hs => cases hs with
              | cons h7 hs => cases hs with
                | nil =>
                  cases h1
                  cases h2
                  obtain ⟨r, _, rfl, _⟩ := h3.unT
                  obtain ⟨c, _, rfl, _⟩ := h4.unT
                  obtain ⟨q, _, rfl, _⟩ := h5.unT
                  obtain ⟨s, _, rfl, _⟩ := h6.unT
                  obtain ⟨t, _, rfl, _⟩ := h7.unT
                  exact ⟨a, r, c, q, s, t, rfl, ha, h3, h4, h5, h6, h7⟩
section
variable {P : Program} {w : World} {K : PySem.W.Frag} {mg : Str → Option Value} {base : Heap} {C : Addr}
abbrev s_first_wrong : Stmt := top 22
theorem sc_first_wrong : FnScope ["schema", "parts", "cells", "kind", "table", "references", "conditions", "probes", "settings", "told", "some"] ["schema", "parts"] (defScope s_first_wrong) :=
  ⟨rfl, rfl, rfl, by decide +kernel, rfl, by decide +kernel, by decide +kernel⟩
def spFirst (C : Addr) : Sp := fun vs H Q _ => ∃ (p a : Addr) (ts zs : List AT) (pt : Pt), vs = [.ref p, .ref a] ∧ SchAt C H p ts zs ∧ DT H (.ref a) pt.d ∧ Fit ts pt ∧ ∀ H', Same H H' → Q .non H'
theorem ok_first {f : Addr} {fd : FuncData} {t : Tok} {a_KINDS : Addr} (F : Fun K "first_wrong" "first_wrong" s_first_wrong f fd) (S0 : Sch P w K mg base C)
    (C__are_references : CalF P w K mg base "_are_references" 2 ["schema", "kind", "table", "thing"] (spRefs C)) (C_cells_of : CalF P w K mg base "cells_of" 4 ["schema", "references"] (spCells C)) (C__are_few : CalF P w K mg base "_are_few" 1 ["thing", "most"] spFew)
    (C__is_condition : CalF P w K mg base "_is_condition" 2 ["cells", "thing"] spCond) (C__busy_tables : CalF P w K mg base "_busy_tables" 1 ["table", "references"] spBusy) (C__are_probes : CalF P w K mg base "_are_probes" 5 ["schema", "cells", "busy", "thing"] (spProbs C))
    (C__are_settings : CalF P w K mg base "_are_settings" 3 ["table", "kind", "references", "cells", "thing"] spSets)
    (c_MOST_CONDITIONS : mg "MOST_CONDITIONS" = some (.int 5 t)) (c_KINDS : mg "KINDS" = some (.ref a_KINDS)) (e_KINDS : ∀ H, SqT K H a_KINDS (kinds.map V.str)) (z_isinstance : mg "isinstance" = none) (z_tuple : mg "tuple" = none) (z_all : mg "all" = none) :
    FnOk P w K mg base CX0 6 f fd ["schema", "parts"] (spFirst C) := by
  have nd := sc_first_wrong.nd
  obtain ⟨fc, i1, i2, FC⟩ := S0.ci
  obtain ⟨fg, g1, g2, g3, FG⟩ := S0.gi
  refine F.ok sc_first_wrong (fun vs H Q E h => ?_) (fun cdv A up s H vs Q E hr h => ?_)
  · obtain ⟨p, a, ts, zs, pt, rfl, _⟩ := h
    rfl
  · obtain ⟨p, a, ts, zs, pt, rfl, S, hpt, fit, k⟩ := h
    have h65 : (A.deeper (envOfC "first_wrong" (defScope s_first_wrong) s.heap.objs.size f cdv)).units + 65 < cLine := by have := hr.un; omega
    obtain ⟨a', r, c, q, st, t, e, ha, dr, dc, dq, ds, dt⟩ := pt_at hpt
    cases e
    obtain ⟨dx, _, _, hp, _, _⟩ := S.ex
    have uok := uses_ok (fun x hx => (S.ok x hx).2) fit.an
    have kin : pt.kind ∈ kinds := by
      rcases fit.kind with e | e | e <;> rw [e] <;> simp [kinds]
    obtain ⟨tt, mt, etb, sok⟩ := fit.tb
    have tn : pt.tb ∈ namesOf ts := List.mem_map.mpr ⟨tt, mt, etb.symm⟩
    refine ⟨_, (pss_cons (ps_asg (pv 1) (pg_tup rfl (pgs_cons (pg_name (i := 3) nd rfl (Or.inl rfl)) (pgs_cons (pg_name (i := 4) nd rfl (Or.inl rfl)) (pgs_cons (pg_name (i := 5) nd rfl (Or.inl rfl)) (pgs_cons (pg_name (i := 6) nd rfl (Or.inl rfl)) (pgs_cons (pg_name (i := 7) nd rfl (Or.inl rfl)) (pgs_cons (pg_name (i := 8) nd rfl (Or.inl rfl)) (pgs_cons (pg_name (i := 9) nd rfl (Or.inl rfl)) pgs_nil)))))))))
        (pss_cons (ps_if (pt_cmpR op_notIn_seq (pv 3) (pe_glob (v := .ref a_KINDS) rfl c_KINDS rfl) (by rfl)) (pss_one (ps_ret pe_str)) pss_nil)
        (pss_cons (ps_if (pt_cmpR (op_notInO i1 i2 FC (hr.mono (by decide)) pass0) (pv 4) (pv 0) (by rfl)) (pss_one (ps_ret pe_str)) pss_nil)
        (pss_cons (ps_if (pt_not (pt_val (pe_cf C__are_references (hr.mono (by decide)) (pa_cons (pv 0) (pa_cons (pv 3) (pa_cons (pv 4) (pa_cons (pv 5) pa_nil))))))) (pss_one (ps_ret pe_str)) pss_nil)
        (pss_cons (ps_set (i := 2) nd rfl (Or.inr rfl) (pe_cf C_cells_of (hr.mono (by decide)) (pa_cons (pv 0) (pa_cons (pv 5) pa_nil))))
        (pss_cons (ps_if (PW.pt (pw_or (pt_not (pt_val (pe_cf C__are_few (hr.mono (by decide)) (pa_cons (pv 6) (pa_cons (pe_glob (v := .int 5) rfl c_MOST_CONDITIONS ⟨_, rfl⟩) pa_nil))))) (pw_or1 (pt_not (pt_val (pe_callB (cr_all rfl) (by rfl) z_all (by decide +kernel) (pa_cons (pe_lc (own := [("some", 10)]) (g := (gName 10)) (tt := tYes) (te := (tCall _ [] E0 (tCons (tVar 2) (tCons (tVar 10) tNil)))) (by rfl) nd (pi_tup (pv 6)) (blkOk_by (own := [("some", 10)]) (N := ["schema", "parts", "cells", "kind", "table", "references", "conditions", "probes", "settings", "told", "some"]) (sc := defScope s_first_wrong) (by decide +kernel)) (fun _ _ _ _ _ => by exact (pg_name (i := 10) nd rfl (Or.inl rfl))) (fun _ _ _ _ _ => by exact pts_nil) (fun _ _ _ _ _ => by exact (pe_cf C__is_condition (hr.mono (by decide)) (pa_cons (pv 2) (pa_cons (pv 10) pa_nil))))) pa_nil))))))) (pss_one (ps_ret pe_str)) pss_nil)
        (pss_cons (ps_if (pt_not (pt_val (pe_cf C__are_probes (hr.mono (by decide)) (pa_cons (pv 0) (pa_cons (pv 2) (pa_cons (pe_cf C__busy_tables (hr.mono (by decide)) (pa_cons (pv 4) (pa_cons (pv 5) pa_nil))) (pa_cons (pv 7) pa_nil))))))) (pss_one (ps_ret pe_str)) pss_nil)
        (pss_cons (ps_if (pt_not (pt_val (pe_cf C__are_settings (hr.mono (by decide)) (pa_cons (pe_ixO (E := fun _ => E0) g1 g2 g3 FG (hr.mono (by decide)) (fun _ _ _ _ _ _ _ h => h.elim) (pv 0) (pv 4)) (pa_cons (pv 3) (pa_cons (pv 5) (pa_cons (pv 2) (pa_cons (pv 8) pa_nil)))))))) (pss_one (ps_ret pe_str)) pss_nil)
        (pss_cons (ps_if (PW.pt (pw_or (pt_not (pt_val (pe_callB call_isi (by rfl) z_isinstance (by decide +kernel) (pa_cons (pv 9) (pa_cons (pe_bltn (v := .ty "tuple") (by rfl) z_tuple PyProof.Rows.boot_tuple rfl) pa_nil))))) (pw_or1 (pt_not (pt_val (pe_callB (cr_all rfl) (by rfl) z_all (by decide +kernel) (pa_cons (pe_lc (own := [("some", 10)]) (g := (gName 10)) (tt := tYes) (te := (tOp _ (tVar 10) (tVar 2))) (by rfl) nd (pi_tup (pv 9)) (blkOk_by (own := [("some", 10)]) (N := ["schema", "parts", "cells", "kind", "table", "references", "conditions", "probes", "settings", "told", "some"]) (sc := defScope s_first_wrong) (by decide +kernel)) (fun _ _ _ _ _ => by exact (pg_name (i := 10) nd rfl (Or.inl rfl))) (fun _ _ _ _ _ => by exact pts_nil) (fun _ _ _ _ _ => by exact (pe_cmpR (op_inU rfl h65) (pv 10) (pv 2) (by rfl)))) pa_nil))))))) (pss_one (ps_ret pe_str)) pss_nil)
        (pss_one (ps_ret pe_non))))))))))), ?_⟩
    walk_at "rr"
    refine k_gTup (SqT.of ha) rfl ?_
    walk_at "rr"
    refine ⟨_, _, rfl, .inr (e_KINDS H), rfl, flat_strs _, ?_⟩
    rw [if_pos (by decide), inV_str kin]
    walk_at "rr"
    refine ⟨p, dx, _, rfl, hp, p, ts, zs, _, rfl, S, .inl ⟨_, rfl, _, rfl, ?_⟩⟩
    rw [decide_eq_true tn]
    walk_at "rr"
    refine ⟨p, r, _, _, ts, zs, pt.refs, rfl, S, dr, fit.r1, fit.r2, fun x hx => ⟨fit.an x hx, fit.rt x hx⟩, fit.al, fit.hd, fun H1 s1 => ?_⟩
    walk_at "rr"
    refine ⟨p, r, ts, zs, pt.refs, rfl, S.same s1, dr.keep (Tups.same s1), fit.r2, fit.rt, fun ce H2 dce s2 => ?_⟩
    have s02 := s1.trans s2
    obtain ⟨c', cv, e, hc, dcv⟩ := dc.unT
    cases e
    have lcv : cv.length = pt.conds.length := by rw [dcv.len, List.length_map]
    have cl := fit.cl
    walk_at "rr"
    have hc2 := s02 _ _ hc
    refine ⟨c, cv, 5, rfl, hc2, by omega, ?_⟩
    walk_at "rr"
    refine ⟨c, rfl, ⟨_, SqT.of hc2⟩, fun D hD => ?_⟩
    refine lc_same (walk_tup (xs := cv)) (fun _ => .bl true) (fun _ => true) (by omega) hD (fun H3 s3 => SqT.of (s3 _ _ hc2)) (fun i z H3 H4 hi s3 y Q1 R1 q1 _ => ?_) fun H3 s3 hD1 => ?_
    · obtain ⟨rfl, y⟩ := y
      obtain ⟨d, e1, e2⟩ := (dcv.keep (Tups.same (s02.trans s3))).at_ y
      rw [List.getElem?_map] at e1
      obtain ⟨cn, hcn, rfl⟩ := Option.map_eq_some_iff.mp e1
      obtain ⟨ca, _, _, rfl, _⟩ := cond_at e2
      walk_at "rr"
      refine ⟨rfl, k_yes ?_⟩
      walk_at "rr"
      exact ⟨ce, ca, usesOf ts pt.refs, cn, rfl, dce.keep (Tups.same s3), e2, fit.cs cn (List.mem_of_getElem? hcn), uok, q1 rfl _ (Same.refl _)⟩
    rw [range_all] at hD1
    walk_at "rr"
    refine ⟨D, (List.range cv.length).map fun _ => true, rfl, SqL.of (by rw [hD1, List.map_map]; rfl), ?_⟩
    rw [all_true]
    have s03 := s02.trans s3
    walk_at "rr"
    refine ⟨_, r, pt.refs, rfl, dr.keep (Tups.same s03), fit.r2, fun b H4 hb s4 => ?_⟩
    have s04 := s03.trans s4
    walk_at "rr"
    refine ⟨p, ce, b, q, ts, zs, usesOf ts pt.refs, _, pt.probes, rfl, S.same s04, dce.keep (Tups.same (s3.trans s4)), uok, hb, dq.keep (Tups.same s04), fit.ps, fit.pl, fit.pn, fun H5 s5 => ?_⟩
    have s05 := s04.trans s5
    have dce5 := dce.keep (Tups.same ((s3.trans s4).trans s5))
    have hp5 := s05 _ _ hp
    walk_at "rr"
    refine ⟨p, dx, _, rfl, hp5, p, ts, zs, tt, by rw [etb], S.same s05, mt, ?_⟩
    obtain ⟨u0, hu0⟩ : ∃ u, pt.refs[0]? = some u := ⟨_, List.getElem?_eq_getElem (by have := fit.r1; omega)⟩
    have lus : (usesOf ts pt.refs).length ≤ 100 := by
      have := uses_len (fun x hx => (S.ok x hx).2) pt.refs
      have := fit.r2
      omega
    walk_at "rr"
    refine ⟨tt.1, r, ce, st, _, tt.2, pt.refs, u0, _, pt.sets, rfl, ((S.ok tt mt).1).same s05, (S.ok tt mt).2, dr.keep (Tups.same s05), hu0, dce5, uok, lus, ds.keep (Tups.same s05), sok u0 hu0, fit.kind, fun H6 s6 => ?_⟩
    have s06 := s05.trans s6
    have dce6 := dce5.keep (Tups.same s6)
    obtain ⟨t', tv, e, ht, dtv⟩ := dt.unT
    cases e
    have ltv : tv.length = pt.told.length := by rw [dtv.len, List.length_map]
    have tl := fit.tl
    have ht6 := s06 _ _ ht
    walk_at "rr"
    refine isi_t (.base (.tup ht6)) (b := true) (by decide +kernel) ?_
    walk_at "rr"
    refine ⟨t, rfl, ⟨_, SqT.of ht6⟩, fun D2 hD2 => ?_⟩
    refine lc_same (walk_tup (xs := tv)) (fun _ => .bl true) (fun _ => true) (by omega) hD2 (fun H7 s7 => SqT.of (s7 _ _ ht6)) (fun i z H7 H8 hi s7 y Q1 R1 q1 _ => ?_) fun H7 s7 hD7 => ?_
    · obtain ⟨rfl, y⟩ := y
      obtain ⟨d, e1, e2⟩ := (dtv.keep (Tups.same (s06.trans s7))).at_ y
      rw [List.getElem?_map] at e1
      obtain ⟨u, hu, rfl⟩ := Option.map_eq_some_iff.mp e1
      walk_at "rr"
      refine ⟨rfl, k_yes ?_⟩
      walk_at "rr"
      exact ⟨u, usesOf ts pt.refs, e2.dp, .inl (dce6.keep (Tups.same s7)).dp, fit.td u (List.mem_of_getElem? hu), uok, q1 rfl _ (Same.refl _)⟩
    rw [range_all] at hD7
    walk_at "rr"
    refine ⟨D2, (List.range tv.length).map fun _ => true, rfl, SqL.of (by rw [hD7, List.map_map]; rfl), ?_⟩
    rw [all_true]
    walk_at "rr"
    exact k _ (s06.trans s7)
end
end K11

set_option Elab.async false
set_option maxRecDepth 100000
set_option maxHeartbeats 4000000
set_option linter.unusedVariables false
namespace K11
open PySem PySem.Spec PyProof.Rows L2 Own
-- steps
local macro_rules | `(tactic| walk_at "lk") => `(tactic| first
  | assumption | exact upd_same
  | ((with_reducible refine' lk_new ?e (by assumption)); (case e => walk_at "lk"))
  | ((with_reducible refine' lk_ext (by assumption) ?e); (case e => walk_at "lk"))
  | ((with_reducible refine' lk_same (by assumption) ?e); (case e => walk_at "lk")))
local macro_rules | `(tactic| walk_at "sq") => `(tactic| first | assumption | exact SqL.of (by walk_at "lk") | exact SqT.of (by walk_at "lk"))
local macro_rules | `(tactic| walk_at "r1") => `(tactic| first
  | with_reducible refine k_seq ?_ | with_reducible refine k_asg ?_ | with_reducible refine k_ret ?_ | with_reducible refine k_drop ?_ | with_reducible refine k_next ?_ | with_reducible refine k_ifS ?_
  | ((with_reducible refine' k_var ?e ?_); (case e => exact rfl)) | with_reducible refine k_c ?_ | with_reducible refine k_op ?_ | with_reducible refine k_un ?_ | with_reducible refine k_test ?_ | with_reducible refine k_B ?_
  | with_reducible refine k_and ?_ | with_reducible refine k_or ?_ | with_reducible refine k_not ?_ | with_reducible refine k_andV ?_ | with_reducible refine k_orV ?_ | with_reducible refine k_notV ?_ | with_reducible refine k_if ?_
  | with_reducible refine k_nil ?_ | with_reducible refine k_cons ?_ | with_reducible refine k_tup ?_ | with_reducible refine k_lst ?_ | with_reducible refine k_call ?_ | with_reducible refine k_cb ?_ | with_reducible refine k_ck ?_
  | with_reducible refine k_par ?_ | with_reducible refine k_par1 ?_ | with_reducible refine k_tr ?_ | with_reducible refine k_rI0 ?_ | with_reducible refine k_rU ?_
  | with_reducible refine k_gN ?_ | with_reducible refine k_gS ?_ | with_reducible refine k_gNil ?_ | with_reducible refine k_gCons ?_ | with_reducible refine k_bm0 ?_ | with_reducible refine k_bm ?_
  | with_reducible refine k_for ?_ | with_reducible refine k_iL ?_ | with_reducible refine k_iT ?_ | with_reducible refine k_iR1 ?_ | ((with_reducible refine k_iR1i ?e ?_); (case e => first | decide | exact ⟨by omega, by omega⟩))
  | with_reducible refine k_max ?_ | with_reducible refine k_isB ?_ | with_reducible refine k_sl ?_ | with_reducible refine k_noP ?_ | with_reducible refine k_part ?_ | with_reducible refine k_partI ?_ | with_reducible refine k_revL ?_
  | ((with_reducible refine' k_ixqT ?e ?f ?_); (case e => walk_at "sq"); (case f => first | exact rfl | exact atI_head))
  | ((with_reducible refine' k_ixqL ?e ?f ?_); (case e => walk_at "sq"); (case f => first | exact rfl | exact atI_head))
  | ((with_reducible refine' k_lenL ?e ?_); (case e => walk_at "sq"))
  | ((with_reducible refine' k_lenT ?e ?_); (case e => walk_at "sq"))
  | ((with_reducible refine' k_ixL ?e ?f ?_); (case e => walk_at "sq"); (case f => first | exact rfl | exact atI_head))
  | ((with_reducible refine' k_ixT ?e ?f ?_); (case e => walk_at "sq"); (case f => first | exact rfl | exact atI_head))
  | ((with_reducible refine k_eq ?e ?_); (case e => exact rfl)) | ((with_reducible refine k_ne ?e ?_); (case e => exact rfl))
  | ((with_reducible refine k_rI ?e ?_); (case e => first | assumption | omega | decide | exact ⟨by omega, by omega⟩ | exact .inl ⟨by omega, by omega⟩ | exact .inr ⟨by omega, by omega⟩)))
local macro_rules | `(tactic| walk_at "rd") => `(tactic| repeat walk_at "r1")
local macro_rules | `(tactic| walk_at "r2") => `(tactic| first
  | walk_at "r1"
  | with_reducible refine k_ifTt ?_ | with_reducible refine k_ifFf ?_ | with_reducible refine k_ifNt ?_ | with_reducible refine k_ifNf ?_
  | with_reducible refine k_makeR ?_ | with_reducible refine k_tJ ?_ | with_reducible refine k_tJc ?_ | with_reducible refine k_tJn ?_ | with_reducible refine k_fmt ?_ | with_reducible refine k_lc ?_ | with_reducible refine k_din ?_ | with_reducible refine k_fld ?_ | with_reducible refine k_dget ?_
  | with_reducible refine k_dput ?_
  | with_reducible refine k_isNv ?_
  | with_reducible refine k_notNv ?_
  | with_reducible refine k_str ?_
  | with_reducible refine k_enumT ?_
  | with_reducible refine k_zipA ?_
  | with_reducible refine k_chain ?_
  | ((with_reducible refine' k_dgS ?e dkv_cells ?_); (case e => walk_at "lk"))
  | ((with_reducible refine' k_dgS ?e dkv_mixed ?_); (case e => walk_at "lk"))
  | ((with_reducible refine' k_dgS ?e dkv_turn ?_); (case e => walk_at "lk")))
local macro_rules | `(tactic| walk_at "rr") => `(tactic| repeat walk_at "r2")
local macro_rules | `(tactic| walk_at "r2") => `(tactic| first
  | with_reducible refine k_lc2 ?_ | with_reducible refine k_scT ?_ | with_reducible refine k_ixO ?_ | with_reducible refine k_star ?_)
-- steps end
/-! ### a statement -/
theorem ntS : ¬ (("_schema" : Str) = "_parts") := by decide +kernel
def flS (p q : Addr) : List (Str × V) := putF "_parts" (.ref q) (putF "_schema" (.ref p) [])
theorem flS_parts (p q : Addr) : (flS p q).lookup ("_parts" : Str) = some (.ref q) := by
  unfold flS
  rw [lookup_putF, if_pos rfl]
theorem flS_schema (p q : Addr) : (flS p q).lookup ("_schema" : Str) = some (.ref p) := by
  unfold flS
  rw [lookup_putF, if_neg ntS, lookup_putF, if_pos rfl]
theorem flS_no (p q : Addr) {m : Str} (h1 : ¬ m = "_parts") (h2 : ¬ m = "_schema") : (flS p q).lookup m = none := by
  unfold flS
  rw [lookup_putF, if_neg h1, lookup_putF, if_neg h2]
  rfl
structure TxtS (K : PySem.W.Frag) (S : Addr) : Prop where
  cl : Cls K S
  nS : NoAttr K S "_schema"
  nP : NoAttr K S "_parts"
theorem SchAt.off {C S p x dx : Addr} {H H' : Hp} {ts zs : List AT} (hx : H x = some (.ins S dx [])) (s : ∀ b o, b ≠ x → H b = some o → H' b = some o) (A : SchAt C H p ts zs) : SchAt C H' p ts zs := by
  have t : Tups H H' := fun a xs e => s a _ (fun z => by rw [z, hx] at e; cases e) e
  obtain ⟨d1, d, u, h1, h2, h3⟩ := A.ex
  have np : p ≠ x := fun z => by
    rw [z, hx] at h1
    have h1 := Option.some.inj h1
    injection h1 with _ _ e
    have q := flds_tables d u
    rw [← e] at q
    cases q
  exact ⟨A.perm, A.asc, fun y hy => ⟨by
    obtain ⟨c, i, k, g1, g2, g3, g4⟩ := (A.ok y hy).1
    exact ⟨c, i, k, t _ _ g1, t _ _ g2, t _ _ g3, t _ _ g4⟩, (A.ok y hy).2⟩, A.nd, A.len, d1, d, u, s _ _ np h1, s _ _ (fun z => by rw [z, hx] at h2; cases h2) h2, t _ _ h3⟩
structure StmtAt (S C : Addr) (H : Hp) (x p q : Addr) (ts zs : List AT) (pt : Pt) : Prop where
  sch : SchAt C H p ts zs
  dat : DT H (.ref q) pt.d
  ex : ∃ dx, H x = some (.ins S dx (flS p q))
theorem StmtAt.same {S C x p q : Addr} {H H' : Hp} {ts zs : List AT} {pt : Pt} (h : StmtAt S C H x p q ts zs pt) (s : Same H H') : StmtAt S C H' x p q ts zs pt :=
  ⟨h.sch.same s, h.dat.keep (Tups.same s), let ⟨dx, e⟩ := h.ex; ⟨dx, s _ _ e⟩⟩
section
variable {P : Program} {w : World} {K : PySem.W.Frag} {mg : Str → Option Value} {base : Heap} {C S : Addr}
abbrev s_Statement___init__ : Stmt := inClass (top 57) 0
theorem sc_Statement___init__ : FnScope ["self", "schema", "kind", "table", "references", "conditions", "probes", "settings", "told", "parts", "wrong"] ["self", "schema", "kind", "table", "references", "conditions", "probes", "settings", "told"] (defScope s_Statement___init__) :=
  ⟨rfl, rfl, rfl, by decide +kernel, rfl, by decide +kernel, by decide +kernel⟩
abbrev s_Statement_conditions : Stmt := inClass (top 57) 5
theorem sc_Statement_conditions : FnScope ["self"] ["self"] (defScope s_Statement_conditions) :=
  ⟨rfl, rfl, rfl, by decide +kernel, rfl, by decide +kernel, by decide +kernel⟩
abbrev s_Statement_probes : Stmt := inClass (top 57) 6
theorem sc_Statement_probes : FnScope ["self"] ["self"] (defScope s_Statement_probes) :=
  ⟨rfl, rfl, rfl, by decide +kernel, rfl, by decide +kernel, by decide +kernel⟩
abbrev s_Statement_settings : Stmt := inClass (top 57) 7
theorem sc_Statement_settings : FnScope ["self"] ["self"] (defScope s_Statement_settings) :=
  ⟨rfl, rfl, rfl, by decide +kernel, rfl, by decide +kernel, by decide +kernel⟩
abbrev s_Statement_told : Stmt := inClass (top 57) 8
theorem sc_Statement_told : FnScope ["self"] ["self"] (defScope s_Statement_told) :=
  ⟨rfl, rfl, rfl, by decide +kernel, rfl, by decide +kernel, by decide +kernel⟩
abbrev s_Statement_parts : Stmt := inClass (top 57) 9
theorem sc_Statement_parts : FnScope ["self"] ["self"] (defScope s_Statement_parts) :=
  ⟨rfl, rfl, rfl, by decide +kernel, rfl, by decide +kernel, by decide +kernel⟩
def spInitS (S C : Addr) : Sp := fun vs H Q _ => ∃ (x dx p r c q s t : Addr) (ts zs : List AT) (pt : Pt), vs = [.ref x, .ref p, .str pt.kind, .str pt.tb, .ref r, .ref c, .ref q, .ref s, .ref t] ∧ H x = some (.ins S dx []) ∧ SchAt C H p ts zs ∧ Fit ts pt ∧
  DT H (.ref r) (.tuple (pt.refs.map useD)) ∧ DT H (.ref c) (.tuple (pt.conds.map Cond.d)) ∧ DT H (.ref q) (.tuple (pt.probes.map Prb.d)) ∧ DT H (.ref s) (.tuple (pt.sets.map Stg.d)) ∧ DT H (.ref t) (.tuple (pt.told.map useD)) ∧
  ∀ H' a, StmtAt S C H' x p a ts zs pt → (∀ b o, b ≠ x → H b = some o → H' b = some o) → Q .non H'
theorem ok_initS {f : Addr} {fd : FuncData} (F : Fun K "__init__" "Statement.__init__" s_Statement___init__ f fd) (T : TxtS K S) (C_first_wrong : CalF P w K mg base "first_wrong" 6 ["schema", "parts"] (spFirst C)) :
    FnOk P w K mg base CX0 7 f fd ["self", "schema", "kind", "table", "references", "conditions", "probes", "settings", "told"] (spInitS S C) := by
  have nd := sc_Statement___init__.nd
  refine F.ok sc_Statement___init__ (fun vs H Q E h => ?_) (fun cdv A up s0 H vs Q E hr h => ?_)
  · obtain ⟨x, dx, p, r, c, q, s, t, ts, zs, pt, rfl, _⟩ := h
    rfl
  · obtain ⟨x, dx, p, r, c, q, s, t, ts, zs, pt, rfl, hx, SA, fit, dr, dc, dq, ds, dt, k⟩ := h
    refine ⟨_, (pss_cons (ps_set (i := 9) nd rfl (Or.inl rfl) (pe_tup (pa_cons (pv 2) (pa_cons (pv 3) (pa_cons (pv 4) (pa_cons (pv 5) (pa_cons (pv 6) (pa_cons (pv 7) (pa_cons (pv 8) pa_nil)))))))))
        (pss_cons (ps_set (i := 10) nd rfl (Or.inl rfl) (pe_cf C_first_wrong (hr.mono (by decide)) (pa_cons (pv 1) (pa_cons (pv 9) pa_nil))))
        (pss_cons (ps_if (pt_cmpR op_notN (pv 10) pe_non (nomark _)) (pss_one ps_nope) pss_nil)
        (pss_cons (ps_fld (pv 0) (pv 1) rfl)
        (pss_one (ps_fld (pv 0) (pv 9) rfl)))))), ?_⟩
    walk_at "rr"
    refine ⟨k_sz rfl, fun a ha => ?_⟩
    generalize hH1 : upd H a _ = H1
    have s1 : Same H H1 := hH1 ▸ Same.upd ha
    have g1 : H1 a = some (.tup [.str pt.kind, .str pt.tb, .ref r, .ref c, .ref q, .ref s, .ref t]) := hH1 ▸ upd_same
    have tp := Tups.same s1
    have dd : DT H1 (.ref a) pt.d := .tup g1 (.cons (.str _) (.cons (.str _) (.cons (dr.keep tp) (.cons (dc.keep tp) (.cons (dq.keep tp) (.cons (ds.keep tp) (.cons (dt.keep tp) .nil)))))))
    walk_at "rr"
    refine ⟨p, a, ts, zs, pt, rfl, SA.same s1, dd, fit, fun H2 s2 => ?_⟩
    have s12 := s1.trans s2
    walk_at "rr"
    refine ⟨rfl, false, rfl, ?_⟩
    walk_at "rr"
    have hx2 := s12 _ _ hx
    refine ⟨x, S, dx, [], rfl, hx2, T.cl, T.nS, by decide, ?_⟩
    walk_at "rr"
    refine ⟨x, S, dx, _, rfl, upd_same, T.cl, T.nP, (by show 1 < 1000; decide), ?_⟩
    have off : ∀ b o, b ≠ x → H2 b = some o → (upd (upd H2 x (.ins S dx (putF "_schema" (.ref p) []))) x (.ins S dx (putF "_parts" (.ref a) (putF "_schema" (.ref p) [])))) b = some o := fun b o nb e => (upd_ne nb).trans ((upd_ne nb).trans e)
    have t2 : Tups H2 (upd (upd H2 x (.ins S dx (putF "_schema" (.ref p) []))) x (.ins S dx (putF "_parts" (.ref a) (putF "_schema" (.ref p) [])))) := fun b xs e => off b _ (fun z => by rw [z, hx2] at e; cases e) e
    exact k _ a ⟨(SA.same s12).off hx2 off, (dd.keep (Tups.same s2)).keep t2, dx, upd_same⟩ fun b o nb e => off b o nb (s12 _ _ e)
end
end K11

set_option Elab.async false
set_option maxRecDepth 100000
/-! more steps: fields, properties -/
namespace Own
open PySem PySem.Spec PyProof.Rows L2
theorem k_fldE {K : PySem.W.Frag} {ta : TE} {f : Str} {σ : L2.St} {H : Hp} {Q : VK} (h : ta σ H fun x H1 => ∃ a C dx fs v, x = .ref a ∧ H1 a = some (.ins C dx fs) ∧ Cls K C ∧ NoAttr K C f ∧ fs.lookup f = some v ∧ Q v H1) : tFld K ta f σ H Q := h
theorem k_prop {C : Addr} {sp : Sp} {E : XK} {ta : TE} {σ : L2.St} {H : Hp} {Q : VK} (h : ta σ H fun x H1 => ∃ a dx fs, x = .ref a ∧ H1 a = some (.ins C dx fs) ∧ sp [.ref a] H1 Q E) : tProp C sp [] E ta σ H Q := h
end Own

set_option Elab.async false
set_option maxRecDepth 100000
set_option maxHeartbeats 4000000
set_option linter.unusedVariables false
namespace K11
open PySem PySem.Spec PyProof.Rows L2 Own
-- steps
local macro_rules | `(tactic| walk_at "lk") => `(tactic| first
  | assumption | exact upd_same
  | ((with_reducible refine' lk_new ?e (by assumption)); (case e => walk_at "lk"))
  | ((with_reducible refine' lk_ext (by assumption) ?e); (case e => walk_at "lk"))
  | ((with_reducible refine' lk_same (by assumption) ?e); (case e => walk_at "lk")))
local macro_rules | `(tactic| walk_at "sq") => `(tactic| first | assumption | exact SqL.of (by walk_at "lk") | exact SqT.of (by walk_at "lk"))
local macro_rules | `(tactic| walk_at "r1") => `(tactic| first
  | with_reducible refine k_seq ?_ | with_reducible refine k_asg ?_ | with_reducible refine k_ret ?_ | with_reducible refine k_drop ?_ | with_reducible refine k_next ?_ | with_reducible refine k_ifS ?_
  | ((with_reducible refine' k_var ?e ?_); (case e => exact rfl)) | with_reducible refine k_c ?_ | with_reducible refine k_op ?_ | with_reducible refine k_un ?_ | with_reducible refine k_test ?_ | with_reducible refine k_B ?_
  | with_reducible refine k_and ?_ | with_reducible refine k_or ?_ | with_reducible refine k_not ?_ | with_reducible refine k_andV ?_ | with_reducible refine k_orV ?_ | with_reducible refine k_notV ?_ | with_reducible refine k_if ?_
  | with_reducible refine k_nil ?_ | with_reducible refine k_cons ?_ | with_reducible refine k_tup ?_ | with_reducible refine k_lst ?_ | with_reducible refine k_call ?_ | with_reducible refine k_cb ?_ | with_reducible refine k_ck ?_
  | with_reducible refine k_par ?_ | with_reducible refine k_par1 ?_ | with_reducible refine k_tr ?_ | with_reducible refine k_rI0 ?_ | with_reducible refine k_rU ?_
  | with_reducible refine k_gN ?_ | with_reducible refine k_gS ?_ | with_reducible refine k_gNil ?_ | with_reducible refine k_gCons ?_ | with_reducible refine k_bm0 ?_ | with_reducible refine k_bm ?_
  | with_reducible refine k_for ?_ | with_reducible refine k_iL ?_ | with_reducible refine k_iT ?_ | with_reducible refine k_iR1 ?_ | ((with_reducible refine k_iR1i ?e ?_); (case e => first | decide | exact ⟨by omega, by omega⟩))
  | with_reducible refine k_max ?_ | with_reducible refine k_isB ?_ | with_reducible refine k_sl ?_ | with_reducible refine k_noP ?_ | with_reducible refine k_part ?_ | with_reducible refine k_partI ?_ | with_reducible refine k_revL ?_
  | ((with_reducible refine' k_ixqT ?e ?f ?_); (case e => walk_at "sq"); (case f => first | exact rfl | exact atI_head))
  | ((with_reducible refine' k_ixqL ?e ?f ?_); (case e => walk_at "sq"); (case f => first | exact rfl | exact atI_head))
  | ((with_reducible refine' k_lenL ?e ?_); (case e => walk_at "sq"))
  | ((with_reducible refine' k_lenT ?e ?_); (case e => walk_at "sq"))
  | ((with_reducible refine' k_ixL ?e ?f ?_); (case e => walk_at "sq"); (case f => first | exact rfl | exact atI_head))
  | ((with_reducible refine' k_ixT ?e ?f ?_); (case e => walk_at "sq"); (case f => first | exact rfl | exact atI_head))
  | ((with_reducible refine k_eq ?e ?_); (case e => exact rfl)) | ((with_reducible refine k_ne ?e ?_); (case e => exact rfl))
  | ((with_reducible refine k_rI ?e ?_); (case e => first | assumption | omega | decide | exact ⟨by omega, by omega⟩ | exact .inl ⟨by omega, by omega⟩ | exact .inr ⟨by omega, by omega⟩)))
local macro_rules | `(tactic| walk_at "rd") => `(tactic| repeat walk_at "r1")
local macro_rules | `(tactic| walk_at "r2") => `(tactic| first
  | walk_at "r1"
  | with_reducible refine k_ifTt ?_ | with_reducible refine k_ifFf ?_ | with_reducible refine k_ifNt ?_ | with_reducible refine k_ifNf ?_
  | with_reducible refine k_makeR ?_ | with_reducible refine k_tJ ?_ | with_reducible refine k_tJc ?_ | with_reducible refine k_tJn ?_ | with_reducible refine k_fmt ?_ | with_reducible refine k_lc ?_ | with_reducible refine k_din ?_ | with_reducible refine k_fld ?_ | with_reducible refine k_dget ?_
  | with_reducible refine k_dput ?_
  | with_reducible refine k_isNv ?_
  | with_reducible refine k_notNv ?_
  | with_reducible refine k_str ?_
  | with_reducible refine k_enumT ?_
  | with_reducible refine k_zipA ?_
  | with_reducible refine k_chain ?_
  | ((with_reducible refine' k_dgS ?e dkv_cells ?_); (case e => walk_at "lk"))
  | ((with_reducible refine' k_dgS ?e dkv_mixed ?_); (case e => walk_at "lk"))
  | ((with_reducible refine' k_dgS ?e dkv_turn ?_); (case e => walk_at "lk")))
local macro_rules | `(tactic| walk_at "rr") => `(tactic| repeat walk_at "r2")
local macro_rules | `(tactic| walk_at "r2") => `(tactic| first
  | with_reducible refine k_lc2 ?_ | with_reducible refine k_scT ?_ | with_reducible refine k_ixO ?_ | with_reducible refine k_star ?_)
local macro_rules | `(tactic| walk_at "r2") => `(tactic| first | with_reducible refine k_fldE ?_ | with_reducible refine k_prop ?_)
-- steps end
def condUses (cs : List Cond) : List Use := cs.flatMap fun c => c.x :: c.y.toList
def srcUses (ss : List Stg) : List Use := ss.filterMap Stg.src
def readCells (p : Pt) : List Use := condUses p.conds ++ (p.probes.map Prb.use ++ (srcUses p.sets ++ p.told))
def readCols (p : Pt) (a : Str) : List Str := ((readCells p).filter fun u => decide (u.1 = a)).map (·.2)
section
variable {P : Program} {w : World} {K : PySem.W.Frag} {mg : Str → Option Value} {base : Heap} {C S : Addr}
def spConds (S C : Addr) : Sp := fun vs H Q _ => ∃ (x p q : Addr) (ts zs : List AT) (pt : Pt), vs = [.ref x] ∧ StmtAt S C H x p q ts zs pt ∧ ∀ c, DT H (.ref c) (.tuple (pt.conds.map Cond.d)) → Q (.ref c) H
def spPrbs (S C : Addr) : Sp := fun vs H Q _ => ∃ (x p q : Addr) (ts zs : List AT) (pt : Pt), vs = [.ref x] ∧ StmtAt S C H x p q ts zs pt ∧ ∀ c, DT H (.ref c) (.tuple (pt.probes.map Prb.d)) → Q (.ref c) H
def spStgs (S C : Addr) : Sp := fun vs H Q _ => ∃ (x p q : Addr) (ts zs : List AT) (pt : Pt), vs = [.ref x] ∧ StmtAt S C H x p q ts zs pt ∧ ∀ c, DT H (.ref c) (.tuple (pt.sets.map Stg.d)) → Q (.ref c) H
def spTold (S C : Addr) : Sp := fun vs H Q _ => ∃ (x p q : Addr) (ts zs : List AT) (pt : Pt), vs = [.ref x] ∧ StmtAt S C H x p q ts zs pt ∧ ∀ c, DT H (.ref c) (.tuple (pt.told.map useD)) → Q (.ref c) H
def spPart (S C : Addr) : Sp := fun vs H Q _ => ∃ (x p q : Addr) (ts zs : List AT) (pt : Pt), vs = [.ref x] ∧ StmtAt S C H x p q ts zs pt ∧ Q (.ref q) H
theorem ok_conds {f : Addr} {fd : FuncData} (F : Fun K "conditions" "Statement.conditions" s_Statement_conditions f fd) (T : TxtS K S) : FnOk P w K mg base CX0 1 f fd ["self"] (spConds S C) := by
  have nd := sc_Statement_conditions.nd
  refine F.ok sc_Statement_conditions (fun vs H Q E h => ?_) (fun cdv A up s0 H vs Q E hr h => ?_)
  · obtain ⟨x, p, q, ts, zs, pt, rfl, _⟩ := h
    rfl
  · obtain ⟨x, p, q, ts, zs, pt, rfl, SA, k⟩ := h
    obtain ⟨a, r, c, qq, st, t, e, ha, dr, dc, dq, ds, dt⟩ := pt_at SA.dat
    cases e
    obtain ⟨dx, hx⟩ := SA.ex
    refine ⟨_, (pss_one (ps_ret (pe_ix ix_seq (pe_fld (pv 0) rfl) pe_int (fun _ _ => rfl)))), ?_⟩
    walk_at "rr"
    refine ⟨x, S, dx, _, _, rfl, hx, T.cl, T.nP, flS_parts _ _, ?_⟩
    walk_at "rr"
    exact k c dc
theorem ok_prbs {f : Addr} {fd : FuncData} (F : Fun K "probes" "Statement.probes" s_Statement_probes f fd) (T : TxtS K S) : FnOk P w K mg base CX0 1 f fd ["self"] (spPrbs S C) := by
  have nd := sc_Statement_probes.nd
  refine F.ok sc_Statement_probes (fun vs H Q E h => ?_) (fun cdv A up s0 H vs Q E hr h => ?_)
  · obtain ⟨x, p, q, ts, zs, pt, rfl, _⟩ := h
    rfl
  · obtain ⟨x, p, q, ts, zs, pt, rfl, SA, k⟩ := h
    obtain ⟨a, r, c, qq, st, t, e, ha, dr, dc, dq, ds, dt⟩ := pt_at SA.dat
    cases e
    obtain ⟨dx, hx⟩ := SA.ex
    refine ⟨_, (pss_one (ps_ret (pe_ix ix_seq (pe_fld (pv 0) rfl) pe_int (fun _ _ => rfl)))), ?_⟩
    walk_at "rr"
    refine ⟨x, S, dx, _, _, rfl, hx, T.cl, T.nP, flS_parts _ _, ?_⟩
    walk_at "rr"
    exact k qq dq
theorem ok_stgs {f : Addr} {fd : FuncData} (F : Fun K "settings" "Statement.settings" s_Statement_settings f fd) (T : TxtS K S) : FnOk P w K mg base CX0 1 f fd ["self"] (spStgs S C) := by
  have nd := sc_Statement_settings.nd
  refine F.ok sc_Statement_settings (fun vs H Q E h => ?_) (fun cdv A up s0 H vs Q E hr h => ?_)
  · obtain ⟨x, p, q, ts, zs, pt, rfl, _⟩ := h
    rfl
  · obtain ⟨x, p, q, ts, zs, pt, rfl, SA, k⟩ := h
    obtain ⟨a, r, c, qq, st, t, e, ha, dr, dc, dq, ds, dt⟩ := pt_at SA.dat
    cases e
    obtain ⟨dx, hx⟩ := SA.ex
    refine ⟨_, (pss_one (ps_ret (pe_ix ix_seq (pe_fld (pv 0) rfl) pe_int (fun _ _ => rfl)))), ?_⟩
    walk_at "rr"
    refine ⟨x, S, dx, _, _, rfl, hx, T.cl, T.nP, flS_parts _ _, ?_⟩
    walk_at "rr"
    exact k st ds
theorem ok_told {f : Addr} {fd : FuncData} (F : Fun K "told" "Statement.told" s_Statement_told f fd) (T : TxtS K S) : FnOk P w K mg base CX0 1 f fd ["self"] (spTold S C) := by
  have nd := sc_Statement_told.nd
  refine F.ok sc_Statement_told (fun vs H Q E h => ?_) (fun cdv A up s0 H vs Q E hr h => ?_)
  · obtain ⟨x, p, q, ts, zs, pt, rfl, _⟩ := h
    rfl
  · obtain ⟨x, p, q, ts, zs, pt, rfl, SA, k⟩ := h
    obtain ⟨a, r, c, qq, st, t, e, ha, dr, dc, dq, ds, dt⟩ := pt_at SA.dat
    cases e
    obtain ⟨dx, hx⟩ := SA.ex
    refine ⟨_, (pss_one (ps_ret (pe_ix ix_seq (pe_fld (pv 0) rfl) pe_int (fun _ _ => rfl)))), ?_⟩
    walk_at "rr"
    refine ⟨x, S, dx, _, _, rfl, hx, T.cl, T.nP, flS_parts _ _, ?_⟩
    walk_at "rr"
    exact k t dt
theorem ok_part {f : Addr} {fd : FuncData} (F : Fun K "parts" "Statement.parts" s_Statement_parts f fd) (T : TxtS K S) : FnOk P w K mg base CX0 1 f fd ["self"] (spPart S C) := by
  have nd := sc_Statement_parts.nd
  refine F.ok sc_Statement_parts (fun vs H Q E h => ?_) (fun cdv A up s0 H vs Q E hr h => ?_)
  · obtain ⟨x, p, q, ts, zs, pt, rfl, _⟩ := h
    rfl
  · obtain ⟨x, p, q, ts, zs, pt, rfl, SA, k⟩ := h
    obtain ⟨dx, hx⟩ := SA.ex
    refine ⟨_, (pss_one (ps_ret (pe_fld (pv 0) rfl))), ?_⟩
    walk_at "rr"
    refine ⟨x, S, dx, _, _, rfl, hx, T.cl, T.nP, flS_parts _ _, ?_⟩
    exact k
structure Props (P : Program) (w : World) (K : PySem.W.Frag) (mg : Str → Option Value) (base : Heap) (S C : Addr) : Prop where
  tx : TxtS K S
  pC : ∃ p g fd, PropOf K S "conditions" p g ∧ FnOk P w K mg base CX0 1 g fd ["self"] (spConds S C) ∧ Binds K fd ["self"] []
  pQ : ∃ p g fd, PropOf K S "probes" p g ∧ FnOk P w K mg base CX0 1 g fd ["self"] (spPrbs S C) ∧ Binds K fd ["self"] []
  pS : ∃ p g fd, PropOf K S "settings" p g ∧ FnOk P w K mg base CX0 1 g fd ["self"] (spStgs S C) ∧ Binds K fd ["self"] []
  pT : ∃ p g fd, PropOf K S "told" p g ∧ FnOk P w K mg base CX0 1 g fd ["self"] (spTold S C) ∧ Binds K fd ["self"] []
  pP : ∃ p g fd, PropOf K S "parts" p g ∧ FnOk P w K mg base CX0 1 g fd ["self"] (spPart S C) ∧ Binds K fd ["self"] []
abbrev s_Statement_reads : Stmt := inClass (top 57) 12
theorem sc_Statement_reads : FnScope ["self", "alias", "compared", "linked", "sources", "cells", "cell", "x", "_", "y", "link", "source", "name", "column"] ["self", "alias"] (defScope s_Statement_reads) :=
  ⟨rfl, rfl, rfl, by decide +kernel, rfl, by decide +kernel, by decide +kernel⟩
structure Few (pt : Pt) : Prop where
  c : pt.conds.length ≤ 5
  q : pt.probes.length ≤ 2
  s : pt.sets.length ≤ 3
  t : pt.told.length ≤ 4
def spReads (S C : Addr) : Sp := fun vs H Q _ => ∃ (x p q : Addr) (ts zs : List AT) (pt : Pt) (al : Str), vs = [.ref x, .str al] ∧ StmtAt S C H x p q ts zs pt ∧ Few pt ∧
  ∀ (b : Addr) (ys : List Str) (H' : Hp), ys.Pairwise txLt → Mem ys (readCols pt al) → H' b = some (.tup (ys.map V.str)) → Same H H' → Q (.ref b) H'
theorem ok_reads {f : Addr} {fd : FuncData} (F : Fun K "reads" "Statement.reads" s_Statement_reads f fd) (R : Props P w K mg base S C) (z_tuple : mg "tuple" = none) (z_sorted : mg "sorted" = none) :
    FnOk P w K mg base CX0 3 f fd ["self", "alias"] (spReads S C) := by
  have nd := sc_Statement_reads.nd
  obtain ⟨_, _, _, pC, FC, bC⟩ := R.pC
  obtain ⟨_, _, _, pQ, FQ, bQ⟩ := R.pQ
  obtain ⟨_, _, _, pS, FS, bS⟩ := R.pS
  obtain ⟨_, _, _, pT, FT, bT⟩ := R.pT
  refine F.ok sc_Statement_reads (fun vs H Q E h => ?_) (fun cdv A up s0 H vs Q E hr h => ?_)
  · obtain ⟨x, p, q, ts, zs, pt, al, rfl, _⟩ := h
    rfl
  · obtain ⟨x, p, q, ts, zs, pt, al, rfl, SA, few, k⟩ := h
    obtain ⟨dx, hx⟩ := SA.ex
    refine ⟨_, (pss_cons (ps_setLc2 (i := 2) (own := [("x", 7), ("_", 8), ("y", 9), ("cell", 6)]) (vs1 := [6]) (g := (gTup K 4 (gCons (gName 7) (gCons (gName 8) (gCons (gName 9) (gCons (gName 8) gNil)))))) (g1 := (gName 6)) (tt := tYes) (tt1 := (tTest (tOp _ (tVar 6) (tC .non)))) (wi1 := (iTup K (tTup (tCons (tVar 7) (tCons (tVar 9) tNil))))) (te := (tVar 6)) (by rfl) nd rfl rfl (sw_true rfl rfl rfl (by decide +kernel)) (pi_tup (pe_prop (pv 0) R.tx.cl pC FC (hr.mono (by decide)) bC .nil pass0 rfl)) (blkOk_by (own := [("x", 7), ("_", 8), ("y", 9), ("cell", 6)]) (N := ["self", "alias", "compared", "linked", "sources", "cells", "cell", "x", "_", "y", "link", "source", "name", "column"]) (sc := defScope s_Statement_reads) (by decide +kernel)) (by decide) (fun _ _ _ _ _ => by exact (pg_tup rfl (pgs_cons (pg_name (i := 7) nd rfl (Or.inl rfl)) (pgs_cons (pg_name (i := 8) nd rfl (Or.inl rfl)) (pgs_cons (pg_name (i := 9) nd rfl (Or.inl rfl)) (pgs_cons (pg_name (i := 8) nd rfl (Or.inl rfl)) pgs_nil)))))) (fun _ _ _ _ _ => by exact pts_nil) (fun _ _ _ _ _ => by exact (pi_tup (pe_tup (pa_cons (pv 7) (pa_cons (pv 9) pa_nil))))) (fun _ _ _ _ _ => by exact (pg_name (i := 6) nd rfl (Or.inl rfl))) (fun _ _ _ _ _ => by exact (pts_one (pt_cmpR op_notN (pv 6) pe_non (nomark _)))) (fun _ _ _ _ _ => by exact (pv 6)))
        (pss_cons (ps_setLc (i := 3) (own := [("_", 8), ("link", 10)]) (g := (gTup K 4 (gCons (gName 8) (gCons (gName 8) (gCons (gName 8) (gCons (gName 10) gNil)))))) (tt := tYes) (te := (tOp _ (tVar 10) (tC (.int 2)))) (by rfl) nd rfl rfl (sw_true rfl rfl rfl (by decide +kernel)) (pi_tup (pe_prop (pv 0) R.tx.cl pQ FQ (hr.mono (by decide)) bQ .nil pass0 rfl)) (blkOk_by (own := [("_", 8), ("link", 10)]) (N := ["self", "alias", "compared", "linked", "sources", "cells", "cell", "x", "_", "y", "link", "source", "name", "column"]) (sc := defScope s_Statement_reads) (by decide +kernel)) (fun _ _ _ _ _ => by exact (pg_tup rfl (pgs_cons (pg_name (i := 8) nd rfl (Or.inl rfl)) (pgs_cons (pg_name (i := 8) nd rfl (Or.inl rfl)) (pgs_cons (pg_name (i := 8) nd rfl (Or.inl rfl)) (pgs_cons (pg_name (i := 10) nd rfl (Or.inl rfl)) pgs_nil)))))) (fun _ _ _ _ _ => by exact pts_nil) (fun _ _ _ _ _ => by exact (pe_ix (ix_seqK (K := K) rfl) (pv 10) pe_int (fun _ _ => rfl))))
        (pss_cons (ps_setLc (i := 4) (own := [("_", 8), ("source", 11)]) (g := (gTup K 3 (gCons (gName 8) (gCons (gName 11) (gCons (gName 8) gNil))))) (tt := (tTest (tOp _ (tVar 11) (tC .non)))) (te := (tVar 11)) (by rfl) nd rfl rfl (sw_true rfl rfl rfl (by decide +kernel)) (pi_tup (pe_prop (pv 0) R.tx.cl pS FS (hr.mono (by decide)) bS .nil pass0 rfl)) (blkOk_by (own := [("_", 8), ("source", 11)]) (N := ["self", "alias", "compared", "linked", "sources", "cells", "cell", "x", "_", "y", "link", "source", "name", "column"]) (sc := defScope s_Statement_reads) (by decide +kernel)) (fun _ _ _ _ _ => by exact (pg_tup rfl (pgs_cons (pg_name (i := 8) nd rfl (Or.inl rfl)) (pgs_cons (pg_name (i := 11) nd rfl (Or.inl rfl)) (pgs_cons (pg_name (i := 8) nd rfl (Or.inl rfl)) pgs_nil))))) (fun _ _ _ _ _ => by exact (pts_one (pt_cmpR op_notN (pv 11) pe_non (nomark _)))) (fun _ _ _ _ _ => by exact (pv 11)))
        (pss_cons (ps_set (i := 5) nd rfl (Or.inl rfl) (pe_lst (StX.pa_star (pv 2) (StX.pa_star (pv 3) (StX.pa_star (pv 4) (StX.pa_star (pe_prop (pv 0) R.tx.cl pT FT (hr.mono (by decide)) bT .nil pass0 rfl) pa_nil))))))
        (pss_one (ps_ret (pe_callTy call_tuple_of (by rfl) z_tuple (by decide +kernel) (pa_cons (pe_callB (call_sortedT rfl hr.units) (by rfl) z_sorted (by decide +kernel) (pa_cons (pe_scT (own := [("name", 12), ("column", 13)]) (g := (gTup K 2 (gCons (gName 12) (gCons (gName 13) gNil)))) (tt := (tTest (tOp _ (tVar 12) (tVar 1)))) (te := (tVar 13)) (by rfl) nd (pi_list (pv 5)) (blkOk_by (own := [("name", 12), ("column", 13)]) (N := ["self", "alias", "compared", "linked", "sources", "cells", "cell", "x", "_", "y", "link", "source", "name", "column"]) (sc := defScope s_Statement_reads) (by decide +kernel)) (fun _ _ _ _ _ => by exact (pg_tup rfl (pgs_cons (pg_name (i := 12) nd rfl (Or.inl rfl)) (pgs_cons (pg_name (i := 13) nd rfl (Or.inl rfl)) pgs_nil)))) (fun _ _ _ _ _ => by exact (pts_one (pt_cmpR op_eq (pv 12) (pv 1) (nomark _)))) (fun _ _ _ _ _ => by exact (pv 13))) pa_nil)) pa_nil)))))))), ?_⟩
    walk_at "rr"
    refine ⟨x, dx, _, rfl, hx, x, p, q, ts, zs, pt, rfl, SA, fun c dc => ?_⟩
    obtain ⟨c', cv, e, hc, dcv⟩ := dc.unT
    cases e
    have lcv : cv.length = pt.conds.length := by rw [dcv.len, List.length_map]
    have lc := few.c
    refine ⟨c, rfl, ⟨_, SqT.of hc⟩, fun D hD => ?_⟩
    refine loop_it (walk_tup (xs := cv)) (fun i H' => ∃ vs, H' D = some (.lst vs) ∧ DTs H' vs ((condUses (pt.conds.take i)).map useD) ∧ Same H H' ∧ vs.length ≤ 2 * i) ⟨[], upd_same, .nil, Same.upd hD, Nat.zero_le _⟩ (fun i H' _ h => ?_) (fun i z H1 H2 hi h y => ?_) (fun H1 h => ?_)
    · obtain ⟨_, _, _, s1, _⟩ := h
      exact SqT.of (s1 _ _ hc)
    · obtain ⟨vs, hDv, dv, s1, lv⟩ := h
      obtain ⟨rfl, y⟩ := y
      obtain ⟨d, e1, e2⟩ := (dcv.keep (Tups.same s1)).at_ y
      rw [List.getElem?_map] at e1
      obtain ⟨cn, hcn, rfl⟩ := Option.map_eq_some_iff.mp e1
      obtain ⟨ca, vx, vy, rfl, hca, dvx, dvy⟩ := cond_at e2
      have tk : condUses (pt.conds.take (i + 1)) = condUses (pt.conds.take i) ++ (cn.x :: cn.y.toList) := by
        rw [List.take_add_one, hcn]
        unfold condUses
        rw [List.flatMap_append]
        simp
      refine k_gTup (SqT.of hca) rfl ?_
      walk_at "rr"
      refine ⟨rfl, k_yes ?_⟩
      walk_at "rr"
      refine ⟨k_sz rfl, fun tp htp => ?_⟩
      have sT : Same H2 (upd H2 tp (.tup [vx, vy])) := Same.upd htp
      have gT : upd H2 tp (.tup [vx, vy]) tp = some (.tup [vx, vy]) := upd_same
      have dvx3 := dvx.keep (Tups.same sT)
      have dvy3 := dvy.keep (Tups.same sT)
      have dv3 := dv.keep (Tups.same sT)
      have hD3 := sT _ _ hDv
      have s3 := s1.trans sT
      generalize upd H2 tp (.tup [vx, vy]) = H3 at gT dvx3 dvy3 dv3 hD3 s3 ⊢
      let up : Nat → List Use := fun j => match j with | 0 => [] | 1 => [cn.x] | _ => cn.x :: cn.y.toList
      have hi3 : i < pt.conds.length := (List.getElem?_eq_some_iff.mp hcn).1
      refine ⟨tp, rfl, ⟨_, SqT.of gT⟩, ?_⟩
      refine loop_it (walk_tup (xs := [vx, vy])) (fun j H' => ∃ ws, H' D = some (.lst ws) ∧ DTs H' ws ((condUses (pt.conds.take i) ++ up j).map useD) ∧ Same H H' ∧ ws.length ≤ 2 * i + j ∧ H' tp = some (.tup [vx, vy]) ∧ DT H' vx (useD cn.x) ∧ DT H' vy (optU cn.y)) ⟨vs, hD3, by simpa [up] using dv3, s3, by omega, gT, dvx3, dvy3⟩ (fun j H' _ h => ?_) (fun j z H4 H5 hj h y => ?_) (fun H4 h => ?_)
      · obtain ⟨_, _, _, _, _, h, _⟩ := h
        exact SqT.of h
      · obtain ⟨ws, hDw, dw, s4, lw, g4, dx4, dy4⟩ := h
        obtain ⟨rfl, y⟩ := y
        have tu : ∀ v : V, Tups H5 (upd H5 D (.lst (ws ++ [v]))) := fun v => tups_upd hDw fun _ z => by cases z
        have hj2 : j = 0 ∨ j = 1 := by
          have : j < 2 := hj
          omega
        rcases hj2 with rfl | rfl
        · obtain rfl : vx = z := Option.some.inj y
          obtain ⟨ua, rfl, _⟩ := use_at dx4
          walk_at "rr"
          refine ⟨rfl, ?_⟩
          walk_at "rr"
          refine ⟨rfl, true, rfl, ?_⟩
          walk_at "rr"
          refine ⟨ws, hDw, k_szL (by omega), ws ++ [.ref ua], upd_same, ?_, same_off s4 hD, by rw [List.length_append]; simp; omega, tu _ _ _ g4, dx4.keep (tu _), dy4.keep (tu _)⟩
          have e3 : (condUses (pt.conds.take i) ++ up (0 + 1)).map useD = (condUses (pt.conds.take i) ++ up 0).map useD ++ [useD cn.x] := by simp [up]
          rw [e3]
          exact (dw.keep (tu _)).app (.cons (dx4.keep (tu _)) .nil)
        · obtain rfl : vy = z := Option.some.inj y
          rcases optU_isN dy4 with ⟨ey, rfl⟩ | ⟨u, b, ey, rfl, hu⟩
          · walk_at "rr"
            refine ⟨rfl, ?_⟩
            walk_at "rr"
            refine ⟨rfl, false, rfl, ?_⟩
            refine ⟨ws, hDw, ?_, s4, by omega, g4, dx4, dy4⟩
            have e3 : (condUses (pt.conds.take i) ++ up (1 + 1)).map useD = (condUses (pt.conds.take i) ++ up 1).map useD := by simp [up, ey]
            rw [e3]
            exact dw
          · walk_at "rr"
            refine ⟨rfl, ?_⟩
            walk_at "rr"
            refine ⟨rfl, true, rfl, ?_⟩
            walk_at "rr"
            refine ⟨ws, hDw, k_szL (by omega), ws ++ [.ref b], upd_same, ?_, same_off s4 hD, by rw [List.length_append]; simp; omega, tu _ _ _ g4, dx4.keep (tu _), dy4.keep (tu _)⟩
            have e3 : (condUses (pt.conds.take i) ++ up (1 + 1)).map useD = (condUses (pt.conds.take i) ++ up 1).map useD ++ [useD u] := by simp [up, ey]
            rw [e3]
            exact (dw.keep (tu _)).app (.cons (hu.keep (tu _)) .nil)
      · obtain ⟨ws, hDw, dw, s4, lw, g4, dx4, dy4⟩ := h
        exact ⟨ws, hDw, by rw [tk]; exact dw, s4, lw⟩
    · obtain ⟨vs, hDv, dv, s1, lv⟩ := h
      rw [lcv, List.take_length] at dv
      walk_at "rr"
      have SA1 := SA.same s1
      refine ⟨x, dx, _, rfl, s1 _ _ hx, x, p, q, ts, zs, pt, rfl, SA1, fun q1 dq1 => ?_⟩
      obtain ⟨_, qv, e, hq1, dqv⟩ := dq1.unT
      cases e
      have lqv : qv.length = pt.probes.length := by rw [dqv.len, List.length_map]
      have lq := few.q
      refine ⟨q1, rfl, ⟨_, SqT.of hq1⟩, fun D2 hD2 => ?_⟩
      refine lc_it (walk_tup (xs := qv)) (fun i H' => ∃ ws, H' D2 = some (.lst ws) ∧ DTs H' ws (((pt.probes.take i).map Prb.use).map useD) ∧ Same H1 H' ∧ ws.length ≤ i) ⟨[], upd_same, .nil, Same.upd hD2, Nat.zero_le _⟩ (fun i H' _ h => SqT.of (h.choose_spec.2.2.1 _ _ hq1)) (fun i z H2 H3 hi h y => ?_) (fun H2 h => ?_)
      · obtain ⟨ws, hDw, dw, s2, lw⟩ := h
        obtain ⟨rfl, y⟩ := y
        obtain ⟨d, e1, e2⟩ := (dqv.keep (Tups.same s2)).at_ y
        rw [List.getElem?_map] at e1
        obtain ⟨pb, hpb, rfl⟩ := Option.map_eq_some_iff.mp e1
        obtain ⟨ca, o, l, os, vy, rfl, hca, _, _, hl, dvy⟩ := prb_at e2
        have hi3 : i < pt.probes.length := (List.getElem?_eq_some_iff.mp hpb).1
        refine k_gTup (SqT.of hca) rfl ?_
        walk_at "rr"
        refine ⟨rfl, k_yes ?_⟩
        walk_at "rr"
        have tu : ∀ v : V, Tups H3 (upd H3 D2 (.lst (ws ++ [v]))) := fun v => tups_upd hDw fun _ z => by cases z
        refine ⟨ws, hDw, k_szL (by omega), ws ++ [vy], upd_same, ?_, same_off s2 hD2, by rw [List.length_append]; simp; omega⟩
        rw [List.take_add_one, hpb, List.map_append, List.map_append]
        exact (dw.keep (tu _)).app (.cons (dvy.keep (tu _)) .nil)
      obtain ⟨ws, hDw, dw, s2, lw⟩ := h
      rw [lqv, List.take_length] at dw
      have s12 := s1.trans s2
      have hDv2 := s2 _ _ hDv
      have dv2 := dv.keep (Tups.same s2)
      walk_at "rr"
      refine ⟨x, dx, _, rfl, s12 _ _ hx, x, p, q, ts, zs, pt, rfl, SA.same s12, fun a1 da1 => ?_⟩
      obtain ⟨_, av, e, ha1, dav⟩ := da1.unT
      cases e
      have lav : av.length = pt.sets.length := by rw [dav.len, List.length_map]
      have la := few.s
      refine ⟨a1, rfl, ⟨_, SqT.of ha1⟩, fun D3 hD3 => ?_⟩
      refine lc_it (walk_tup (xs := av)) (fun i H' => ∃ us, H' D3 = some (.lst us) ∧ DTs H' us ((srcUses (pt.sets.take i)).map useD) ∧ Same H2 H' ∧ us.length ≤ i) ⟨[], upd_same, .nil, Same.upd hD3, Nat.zero_le _⟩ (fun i H' _ h => SqT.of (h.choose_spec.2.2.1 _ _ ha1)) (fun i z H3 H4 hi h y => ?_) (fun H3 h => ?_)
      · obtain ⟨us, hDu, du, s3, lu⟩ := h
        obtain ⟨rfl, y⟩ := y
        obtain ⟨d, e1, e2⟩ := (dav.keep (Tups.same s3)).at_ y
        rw [List.getElem?_map] at e1
        obtain ⟨sg, hsg, rfl⟩ := Option.map_eq_some_iff.mp e1
        obtain ⟨ca, vy, rfl, hca, dvy⟩ := stg_at e2
        have hi3 : i < pt.sets.length := (List.getElem?_eq_some_iff.mp hsg).1
        have tk : srcUses (pt.sets.take (i + 1)) = srcUses (pt.sets.take i) ++ sg.src.toList := by
          rw [List.take_add_one, hsg]
          unfold srcUses
          rw [List.filterMap_append]
          cases h : sg.src <;> simp [List.filterMap_cons, h]
        refine k_gTup (SqT.of hca) rfl ?_
        have tu : ∀ v : V, Tups H4 (upd H4 D3 (.lst (us ++ [v]))) := fun v => tups_upd hDu fun _ z => by cases z
        rcases optU_isN dvy with ⟨ey, rfl⟩ | ⟨u, b, ey, rfl, hu⟩
        · walk_at "rr"
          refine ⟨rfl, ?_⟩
          walk_at "rr"
          refine ⟨rfl, false, rfl, ?_⟩
          refine ⟨us, hDu, ?_, s3, by omega⟩
          rw [tk, ey]
          simpa using du
        · walk_at "rr"
          refine ⟨rfl, ?_⟩
          walk_at "rr"
          refine ⟨rfl, true, rfl, ?_⟩
          walk_at "rr"
          refine ⟨us, hDu, k_szL (by omega), us ++ [.ref b], upd_same, ?_, same_off s3 hD3, by rw [List.length_append]; simp; omega⟩
          rw [tk, ey]
          have e3 : (srcUses (pt.sets.take i) ++ (some u).toList).map useD = (srcUses (pt.sets.take i)).map useD ++ [useD u] := by simp
          rw [e3]
          exact (du.keep (tu _)).app (.cons (hu.keep (tu _)) .nil)
      obtain ⟨us, hDu, du, s3, lu⟩ := h
      rw [lav, List.take_length] at du
      have s13 := s12.trans s3
      have hDv3 := s3 _ _ hDv2
      have dv3 := dv2.keep (Tups.same s3)
      have hDw3 := s3 _ _ hDw
      have dw3 := dw.keep (Tups.same s3)
      walk_at "rr"
      refine ⟨D, vs, rfl, .inr (SqL.of hDv3), ?_⟩
      walk_at "rr"
      refine ⟨D2, ws, rfl, .inr (SqL.of hDw3), ?_⟩
      walk_at "rr"
      refine ⟨D3, us, rfl, .inr (SqL.of hDu), ?_⟩
      walk_at "rr"
      refine ⟨x, dx, _, rfl, s13 _ _ hx, x, p, q, ts, zs, pt, rfl, SA.same s13, fun t1 dt1 => ?_⟩
      obtain ⟨_, tv, e, ht1, dtv⟩ := dt1.unT
      cases e
      have ltv : tv.length = pt.told.length := by rw [dtv.len, List.length_map]
      have lt := few.t
      refine ⟨t1, tv, rfl, .inl (SqT.of ht1), ?_⟩
      have dall : DTs H3 (vs ++ (ws ++ (us ++ tv))) ((readCells pt).map useD) := by
        unfold readCells
        rw [List.map_append, List.map_append, List.map_append]
        exact dv3.app (dw3.app (du.app dtv))
      have lall : (vs ++ (ws ++ (us ++ tv))).length ≤ 100 := by
        simp only [List.length_append]
        rw [lcv] at lv
        omega
      walk_at "rr"
      refine ⟨?_, fun L hL => ?_⟩
      · show (vs ++ (ws ++ (us ++ (tv ++ [])))).length ≤ sizeLine
        rw [List.append_nil]
        exact Nat.le_trans lall (by decide)
      generalize hH4 : upd H3 L _ = H4
      have gL : H4 L = some (.lst (vs ++ (ws ++ (us ++ tv)))) := by
        rw [← hH4, upd_same]
        simp
      have s34 : Same H3 H4 := hH4 ▸ Same.upd hL
      have s14 := s13.trans s34
      have dal4 := dall.keep (Tups.same s34)
      generalize vs ++ (ws ++ (us ++ tv)) = al4 at dal4 lall gL
      have lal : al4.length = (readCells pt).length := by rw [dal4.len, List.length_map]
      walk_at "rr"
      refine ⟨L, rfl, ⟨_, SqL.of gL⟩, fun D5 hD5 => ?_⟩
      refine loop_it (walk_list (xs := al4)) (fun i H' => H' L = some (.lst al4) ∧ DTs H' al4 ((readCells pt).map useD) ∧ Same H4 H' ∧ ∃ ys, ys = (((readCells pt).take i).filter fun u => decide (u.1 = al)).map (·.2) ∧ ys.length ≤ i ∧ H' D5 = some (SetD P w D5 ys)) ⟨?_, ?_, Same.upd hD5, [], rfl, Nat.le_refl _, upd_same⟩ (fun i H' _ h => SqL.of h.1) (fun i z H5 H6 hi h y => ?_) (fun H5 h => ?_)
      · exact lk_new gL hD5
      · exact dal4.keep (Tups.same (Same.upd hD5))
      · obtain ⟨g5, d5, s5, ys, eys, lys, hS⟩ := h
        obtain ⟨rfl, y⟩ := y
        obtain ⟨u, ua, hu, rfl, hua⟩ := uses_at d5 y
        have tk : (((readCells pt).take (i + 1)).filter fun u => decide (u.1 = al)).map (·.2) = (((readCells pt).take i).filter fun u => decide (u.1 = al)).map (·.2) ++ (if u.1 = al then [u.2] else []) := by
          rw [List.take_add_one, hu, List.filter_append, List.map_append]
          congr 1
          by_cases h : u.1 = al <;> simp [h]
        refine k_gTup (SqT.of hua) rfl ?_
        walk_at "rr"
        refine ⟨rfl, ?_⟩
        walk_at "rr"
        refine k_iteD (fun e => ?_) fun e => ?_
        · have e : u.1 = al := V.str.inj e
          walk_at "rr"
          have up : Tups H6 (upd H6 D5 (SetD P w D5 (ys ++ [u.2]))) := tups_upd hS fun _ z => by cases z
          have nL : L ≠ D5 := ne_of_none gL hD5
          refine ⟨ys, u.2, rfl, hS, by omega, (upd_ne nL).trans g5, d5.keep up, same_off s5 hD5, ys ++ [u.2], ?_, by rw [List.length_append]; simp; omega, upd_same⟩
          rw [tk, if_pos e, eys]
        · have e : ¬ u.1 = al := fun z => e (congrArg V.str z)
          refine ⟨g5, d5, s5, ys, ?_, by omega, hS⟩
          rw [tk, if_neg e, eys, List.append_nil]
      · obtain ⟨g5, d5, s5, ys, eys, lys, hS⟩ := h
        rw [lal, List.take_length] at eys
        walk_at "rr"
        refine ⟨D5, ys, rfl, hS, fun g zs1 hg asc mem => ?_⟩
        walk_at "rr"
        refine ⟨g, _, rfl, .inl ⟨SqL.of upd_same, fun b hb => ?_⟩⟩
        refine k b zs1 _ asc (by rw [readCols, ← eys]; exact mem) upd_same ((s14.trans s5).trans ((Same.upd hg).trans (Same.upd hb)))
end
end K11

set_option Elab.async false
set_option maxRecDepth 100000
set_option maxHeartbeats 4000000
set_option linter.unusedVariables false
namespace K11
open PySem PySem.Spec PyProof.Rows L2 Own
-- steps
local macro_rules | `(tactic| walk_at "lk") => `(tactic| first
  | assumption | exact upd_same
  | ((with_reducible refine' lk_new ?e (by assumption)); (case e => walk_at "lk"))
  | ((with_reducible refine' lk_ext (by assumption) ?e); (case e => walk_at "lk"))
  | ((with_reducible refine' lk_same (by assumption) ?e); (case e => walk_at "lk")))
local macro_rules | `(tactic| walk_at "sq") => `(tactic| first | assumption | exact SqL.of (by walk_at "lk") | exact SqT.of (by walk_at "lk"))
local macro_rules | `(tactic| walk_at "r1") => `(tactic| first
  | with_reducible refine k_seq ?_ | with_reducible refine k_asg ?_ | with_reducible refine k_ret ?_ | with_reducible refine k_drop ?_ | with_reducible refine k_next ?_ | with_reducible refine k_ifS ?_
  | ((with_reducible refine' k_var ?e ?_); (case e => exact rfl)) | with_reducible refine k_c ?_ | with_reducible refine k_op ?_ | with_reducible refine k_un ?_ | with_reducible refine k_test ?_ | with_reducible refine k_B ?_
  | with_reducible refine k_and ?_ | with_reducible refine k_or ?_ | with_reducible refine k_not ?_ | with_reducible refine k_andV ?_ | with_reducible refine k_orV ?_ | with_reducible refine k_notV ?_ | with_reducible refine k_if ?_
  | with_reducible refine k_nil ?_ | with_reducible refine k_cons ?_ | with_reducible refine k_tup ?_ | with_reducible refine k_lst ?_ | with_reducible refine k_call ?_ | with_reducible refine k_cb ?_ | with_reducible refine k_ck ?_
  | with_reducible refine k_par ?_ | with_reducible refine k_par1 ?_ | with_reducible refine k_tr ?_ | with_reducible refine k_rI0 ?_ | with_reducible refine k_rU ?_
  | with_reducible refine k_gN ?_ | with_reducible refine k_gS ?_ | with_reducible refine k_gNil ?_ | with_reducible refine k_gCons ?_ | with_reducible refine k_bm0 ?_ | with_reducible refine k_bm ?_
  | with_reducible refine k_for ?_ | with_reducible refine k_iL ?_ | with_reducible refine k_iT ?_ | with_reducible refine k_iR1 ?_ | ((with_reducible refine k_iR1i ?e ?_); (case e => first | decide | exact ⟨by omega, by omega⟩))
  | with_reducible refine k_max ?_ | with_reducible refine k_isB ?_ | with_reducible refine k_sl ?_ | with_reducible refine k_noP ?_ | with_reducible refine k_part ?_ | with_reducible refine k_partI ?_ | with_reducible refine k_revL ?_
  | ((with_reducible refine' k_ixqT ?e ?f ?_); (case e => walk_at "sq"); (case f => first | exact rfl | exact atI_head))
  | ((with_reducible refine' k_ixqL ?e ?f ?_); (case e => walk_at "sq"); (case f => first | exact rfl | exact atI_head))
  | ((with_reducible refine' k_lenL ?e ?_); (case e => walk_at "sq"))
  | ((with_reducible refine' k_lenT ?e ?_); (case e => walk_at "sq"))
  | ((with_reducible refine' k_ixL ?e ?f ?_); (case e => walk_at "sq"); (case f => first | exact rfl | exact atI_head))
  | ((with_reducible refine' k_ixT ?e ?f ?_); (case e => walk_at "sq"); (case f => first | exact rfl | exact atI_head))
  | ((with_reducible refine k_eq ?e ?_); (case e => exact rfl)) | ((with_reducible refine k_ne ?e ?_); (case e => exact rfl))
  | ((with_reducible refine k_rI ?e ?_); (case e => first | assumption | omega | decide | exact ⟨by omega, by omega⟩ | exact .inl ⟨by omega, by omega⟩ | exact .inr ⟨by omega, by omega⟩)))
local macro_rules | `(tactic| walk_at "rd") => `(tactic| repeat walk_at "r1")
local macro_rules | `(tactic| walk_at "r2") => `(tactic| first
  | walk_at "r1"
  | with_reducible refine k_ifTt ?_ | with_reducible refine k_ifFf ?_ | with_reducible refine k_ifNt ?_ | with_reducible refine k_ifNf ?_
  | with_reducible refine k_makeR ?_ | with_reducible refine k_tJ ?_ | with_reducible refine k_tJc ?_ | with_reducible refine k_tJn ?_ | with_reducible refine k_fmt ?_ | with_reducible refine k_lc ?_ | with_reducible refine k_din ?_ | with_reducible refine k_fld ?_ | with_reducible refine k_dget ?_
  | with_reducible refine k_dput ?_
  | with_reducible refine k_isNv ?_
  | with_reducible refine k_notNv ?_
  | with_reducible refine k_str ?_
  | with_reducible refine k_enumT ?_
  | with_reducible refine k_zipA ?_
  | with_reducible refine k_chain ?_
  | ((with_reducible refine' k_dgS ?e dkv_cells ?_); (case e => walk_at "lk"))
  | ((with_reducible refine' k_dgS ?e dkv_mixed ?_); (case e => walk_at "lk"))
  | ((with_reducible refine' k_dgS ?e dkv_turn ?_); (case e => walk_at "lk")))
local macro_rules | `(tactic| walk_at "rr") => `(tactic| repeat walk_at "r2")
local macro_rules | `(tactic| walk_at "r2") => `(tactic| first
  | with_reducible refine k_lc2 ?_ | with_reducible refine k_scT ?_ | with_reducible refine k_ixO ?_ | with_reducible refine k_star ?_)
local macro_rules | `(tactic| walk_at "r2") => `(tactic| first | with_reducible refine k_fldE ?_ | with_reducible refine k_prop ?_)
-- steps end
/-- the cells as the law collects them -/
def byCells (p : Pt) : List (Option Use) := p.told.map some ++ p.sets.map Stg.src ++ p.probes.map (fun q => some q.use) ++ p.conds.flatMap fun c => [some c.x, c.y]
def pickCol (al : Str) : Option Use → Option Str
  | some u => if u.1 = al then some u.2 else none
  | none => none
theorem by_mem (p : Pt) (al : Str) : Mem ((byCells p).filterMap (pickCol al)) (readCols p al) := fun z => by
  have e1 : z ∈ (byCells p).filterMap (pickCol al) ↔ some (al, z) ∈ byCells p := by
    rw [List.mem_filterMap]
    constructor
    · rintro ⟨o, ho, e⟩
      cases o with
      | none => cases e
      | some u =>
        have e : (if u.1 = al then some u.2 else none) = some z := e
        by_cases h : u.1 = al
        · rw [if_pos h] at e
          obtain rfl := Option.some.inj e
          rw [← h]
          exact ho
        · rw [if_neg h] at e
          cases e
    · intro h
      exact ⟨_, h, if_pos rfl⟩
  have e2 : z ∈ readCols p al ↔ (al, z) ∈ readCells p := by
    unfold readCols
    rw [List.mem_map]
    constructor
    · rintro ⟨u, hu, rfl⟩
      obtain ⟨h1, h2⟩ := List.mem_filter.mp hu
      rw [← of_decide_eq_true h2]
      exact h1
    · intro h
      exact ⟨_, List.mem_filter.mpr ⟨h, decide_eq_true rfl⟩, rfl⟩
  rw [e1, e2]
  unfold byCells readCells condUses srcUses
  simp only [List.mem_append, List.mem_map, List.mem_flatMap, List.mem_filterMap, List.mem_cons, List.not_mem_nil, or_false, Option.some.injEq, exists_eq_right, Option.mem_toList]
  constructor
  · rintro (((h | h) | h) | ⟨c, hc, h | h⟩)
    · exact .inr (.inr (.inr h))
    · obtain ⟨a, h1, h2⟩ := h
      exact .inr (.inr (.inl ⟨a, h1, h2⟩))
    · exact .inr (.inl h)
    · exact .inl ⟨c, hc, .inl h⟩
    · exact .inl ⟨c, hc, .inr h.symm⟩
  · rintro (⟨c, hc, h | h⟩ | h | h | h)
    · exact .inr ⟨c, hc, .inl h⟩
    · exact .inr ⟨c, hc, .inr h.symm⟩
    · exact .inl (.inr h)
    · exact .inl (.inl (.inr h))
    · exact .inl (.inl (.inl h))
theorem k_makeK {C : Addr} {n m : Nat} {sp : Sp} {gV : List V → List V → List V} {E : XK} {t tk : TA} {σ : L2.St} {H : Hp} {Q : VK} (h : t σ H fun vs H1 => tk σ H1 fun zs H2 => vs.length = n ∧ zs.length = m ∧ ∀ x dx, H2 x = none → H2 dx = none → dx ≠ x →
  sp (gV (.ref x :: vs) zs) (upd (upd H2 dx (.own x)) x (.ins C dx [])) (fun v H3 => v = .non ∧ Q (.ref x) H3) E) : tMakeK C n m sp gV E t tk σ H Q := h
section
variable {P : Program} {w : World} {K : PySem.W.Frag} {mg : Str → Option Value} {g0 : Heap} {C S : Addr}
abbrev s_made : Stmt := top 82
theorem sc_made : FnScope ["_law_catalog", "_law_it"] ["_law_catalog", "_law_it"] (defScope s_made) :=
  ⟨rfl, rfl, rfl, by decide +kernel, rfl, by decide +kernel, by decide +kernel⟩
abbrev s_read_by : Stmt := top 83
theorem sc_read_by : FnScope ["_law_it", "_law_alias_here", "_law_found", "_law_x", "_law_op", "_law_y", "_law_k", "_law_one"] ["_law_it", "_law_alias_here"] (defScope s_read_by) :=
  ⟨rfl, rfl, rfl, by decide +kernel, rfl, by decide +kernel, by decide +kernel⟩
def gKw {α : Type} (us ws : List α) : List α := us ++ ws
abbrev stKs : List Str := ["conditions", "probes", "settings", "told"]
abbrev stPs : List Str := ["self", "schema", "kind", "table", "references", "conditions", "probes", "settings", "told"]
def spMadeL (S C : Addr) : Sp := fun vs H Q _ => ∃ (p a : Addr) (ts zs : List AT) (pt : Pt), vs = [.ref p, .ref a] ∧ SchAt C H p ts zs ∧ DT H (.ref a) pt.d ∧ Fit ts pt ∧ ∀ x q H', StmtAt S C H' x p q ts zs pt → Same H H' → Q (.ref x) H'
theorem ok_madeL {f fi : Addr} {fd fdi : FuncData} (F : Fun K "_law_made" "_law_made" s_made f fd) (g_Statement : mg "Statement" = some (.ref S)) (S_mk : Mk K S fi) (S_init : FnOk P w K mg g0 CX0 7 fi fdi stPs (spInitS S C)) (S_kb : KBn K fdi stPs 5 stKs gKw gKw) :
    GOk P w K mg g0 CX0 9 f fd ["_law_catalog", "_law_it"] (spMadeL S C) := by
  have nd := sc_made.nd
  refine okG F sc_made (fun vs H Q E h => ?_) (fun cdv A up s0 H vs Q E qt hr h => ?_)
  · obtain ⟨p, a, ts, zs, pt, rfl, _⟩ := h
    rfl
  · obtain ⟨p, a, ts, zs, pt, rfl, SA, hpt, fit, k⟩ := h
    obtain ⟨a', r, c, q, st, t, e, ha, dr, dc, dq, ds, dt⟩ := pt_at hpt
    cases e
    refine ⟨_, (pss_one (ps_ret (pe_makeK S_mk S_init (hr.mono (by decide)) (by rfl) g_Statement S_kb pass0 (pa_cons (pv 0) (pa_cons (pe_ix ix_seq (pv 1) pe_int (fun _ _ => rfl)) (pa_cons (pe_ix ix_seq (pv 1) pe_int (fun _ _ => rfl)) (pa_cons (pe_ix ix_seq (pv 1) pe_int (fun _ _ => rfl)) pa_nil)))) (pk_cons (pe_ix ix_seq (pv 1) pe_int (fun _ _ => rfl)) (pk_cons (pe_ix ix_seq (pv 1) pe_int (fun _ _ => rfl)) (pk_cons (pe_ix ix_seq (pv 1) pe_int (fun _ _ => rfl)) (pk_cons (pe_ix ix_seq (pv 1) pe_int (fun _ _ => rfl)) pk_nil))))))), ?_⟩
    walk_at "rr"
    refine k_makeK ?_
    walk_at "rr"
    refine ⟨rfl, rfl, fun x dx hx hdx ne => ?_⟩
    have s1 : Same H (upd (upd H dx (HO.own x)) x (HO.ins S dx [])) := (Same.upd hdx).trans (Same.upd ((upd_ne fun z => ne z.symm).trans hx))
    have hxx : (upd (upd H dx (HO.own x)) x (HO.ins S dx [])) x = some (.ins S dx []) := upd_same
    generalize upd (upd H dx (HO.own x)) x (HO.ins S dx []) = H2 at s1 hxx ⊢
    have tp := Tups.same s1
    refine ⟨x, dx, p, r, c, q, st, t, ts, zs, pt, rfl, hxx, SA.same s1, fit, dr.keep tp, dc.keep tp, dq.keep tp, ds.keep tp, dt.keep tp, fun H' b SB kk => ⟨rfl, k x b H' SB fun a' o e => ?_⟩⟩
    exact kk a' o (fun z => by rw [z, hx] at e; cases e) (s1 _ _ e)
def spReadBy : Sp := fun vs H Q _ => ∃ (a : Addr) (pt : Pt) (al : Str), vs = [.ref a, .str al] ∧ DT H (.ref a) pt.d ∧ Few pt ∧
  ∀ (b : Addr) (ys : List Str) (H' : Hp), ys.Pairwise txLt → Mem ys (readCols pt al) → H' b = some (.tup (ys.map V.str)) → Same H H' → Q (.ref b) H'
theorem ok_readBy {f : Addr} {fd : FuncData} (F : Fun K "_law_read_by" "_law_read_by" s_read_by f fd) (z_list : mg "list" = none) (z_tuple : mg "tuple" = none) (z_sorted : mg "sorted" = none) (z_set : mg "set" = none) :
    GOk P w K mg g0 CX0 1 f fd ["_law_it", "_law_alias_here"] spReadBy := by
  have nd := sc_read_by.nd
  refine okG F sc_read_by (fun vs H Q E h => ?_) (fun cdv A up s0 H vs Q E qt hr h => ?_)
  · obtain ⟨a, pt, al, rfl, _⟩ := h
    rfl
  · obtain ⟨a, pt, al, rfl, hpt, few, k⟩ := h
    obtain ⟨a', r, c, q, st, t, e, ha, dr, dc, dq, ds, dt⟩ := pt_at hpt
    cases e
    refine ⟨_, (pss_cons (ps_set (i := 2) nd rfl (Or.inl rfl) (pe_op op_cat (pe_op op_cat (pe_callTy c_list (by rfl) z_list (by decide +kernel) (pa_cons (pe_ix ix_seq (pv 0) pe_int (fun _ _ => rfl)) pa_nil)) (pe_lc (own := [("_law_one", 7)]) (g := (gName 7)) (tt := tYes) (te := (tOp _ (tVar 7) (tC (.int 1)))) (by rfl) nd (pi_tup (pe_ix ix_seq (pv 0) pe_int (fun _ _ => rfl))) (blkOk_by (own := [("_law_one", 7)]) (N := ["_law_it", "_law_alias_here", "_law_found", "_law_x", "_law_op", "_law_y", "_law_k", "_law_one"]) (sc := defScope s_read_by) (by decide +kernel)) (fun _ _ _ _ _ => by exact (pg_name (i := 7) nd rfl (Or.inl rfl))) (fun _ _ _ _ _ => by exact pts_nil) (fun _ _ _ _ _ => by exact (pe_ix (ix_seqK (K := K) rfl) (pv 7) pe_int (fun _ _ => rfl))))) (pe_lc (own := [("_law_one", 7)]) (g := (gName 7)) (tt := tYes) (te := (tOp _ (tOp _ (tVar 7) (tC (.int 3))) (tC (.int 2)))) (by rfl) nd (pi_tup (pe_ix ix_seq (pv 0) pe_int (fun _ _ => rfl))) (blkOk_by (own := [("_law_one", 7)]) (N := ["_law_it", "_law_alias_here", "_law_found", "_law_x", "_law_op", "_law_y", "_law_k", "_law_one"]) (sc := defScope s_read_by) (by decide +kernel)) (fun _ _ _ _ _ => by exact (pg_name (i := 7) nd rfl (Or.inl rfl))) (fun _ _ _ _ _ => by exact pts_nil) (fun _ _ _ _ _ => by exact (pe_ix (ix_seqK (K := K) rfl) (pe_ix (ix_seqK (K := K) rfl) (pv 7) pe_int (fun _ _ => rfl)) pe_int (fun _ _ => rfl))))))
        (pss_cons (ps_for PassesOwn.never rfl (pi_tup (pe_ix ix_seq (pv 0) pe_int (fun _ _ => rfl))) (pg_tup rfl (pgs_cons (pg_name (i := 3) nd rfl (Or.inl rfl)) (pgs_cons (pg_name (i := 4) nd rfl (Or.inl rfl)) (pgs_cons (pg_name (i := 5) nd rfl (Or.inl rfl)) (pgs_cons (pg_name (i := 6) nd rfl (Or.inl rfl)) pgs_nil))))) (pss_one (ps_set (i := 2) nd rfl (Or.inl rfl) (pe_op op_cat (pv 2) (pe_lst (pa_cons (pv 3) (pa_cons (pv 5) pa_nil)))))))
        (pss_one (ps_ret (pe_callTy call_tuple_of (by rfl) z_tuple (by decide +kernel) (pa_cons (pe_callB (call_sortedT rfl hr.units) (by rfl) z_sorted (by decide +kernel) (pa_cons (pe_callTy (call_setT rfl) (by rfl) z_set (by decide +kernel) (pa_cons (pe_lc (own := [("_law_one", 7)]) (g := (gName 7)) (tt := (tAnd (tTest (tOp _ (tVar 7) (tC .non))) (tTest (tOp _ (tOp _ (tVar 7) (tC (.int 0))) (tVar 1))))) (te := (tOp _ (tVar 7) (tC (.int 1)))) (by rfl) nd (pi_list (pv 2)) (blkOk_by (own := [("_law_one", 7)]) (N := ["_law_it", "_law_alias_here", "_law_found", "_law_x", "_law_op", "_law_y", "_law_k", "_law_one"]) (sc := defScope s_read_by) (by decide +kernel)) (fun _ _ _ _ _ => by exact (pg_name (i := 7) nd rfl (Or.inl rfl))) (fun _ _ _ _ _ => by exact (pts_one (PW.pt (pw_and (pt_cmpR op_notN (pv 7) pe_non (nomark _)) (pw_and1 (pt_cmpR op_eq (pe_ix (ix_seqK (K := K) rfl) (pv 7) pe_int (fun _ _ => rfl)) (pv 1) (nomark _))))))) (fun _ _ _ _ _ => by exact (pe_ix (ix_seqK (K := K) rfl) (pv 7) pe_int (fun _ _ => rfl)))) pa_nil)) pa_nil)) pa_nil)))))), ?_⟩
    obtain ⟨_, tv, e, ht, dtv⟩ := dt.unT
    cases e
    obtain ⟨_, sv, e, hs, dsv⟩ := ds.unT
    cases e
    obtain ⟨_, qv, e, hq, dqv⟩ := dq.unT
    cases e
    obtain ⟨_, cv, e, hc, dcv⟩ := dc.unT
    cases e
    have ltv : tv.length = pt.told.length := by rw [dtv.len, List.length_map]
    have lsv : sv.length = pt.sets.length := by rw [dsv.len, List.length_map]
    have lqv : qv.length = pt.probes.length := by rw [dqv.len, List.length_map]
    have lcv : cv.length = pt.conds.length := by rw [dcv.len, List.length_map]
    have f1 := few.c
    have f2 := few.q
    have f3 := few.s
    have f4 := few.t
    walk_at "rr"
    refine k_listT (SqT.of ht) fun La hL0 => ?_
    generalize hHa : upd H La _ = Ha
    have s1 : Same H Ha := hHa ▸ Same.upd hL0
    have gLz : Ha La = some (.lst tv) := hHa ▸ upd_same
    have ha1 := s1 _ _ ha
    have hs1 := s1 _ _ hs
    have dsv1 := dsv.keep (Tups.same s1)
    walk_at "rr"
    refine ⟨st, rfl, ⟨_, SqT.of hs1⟩, fun D1 hD1 => ?_⟩
    refine lc_it (walk_tup (xs := sv)) (fun i H' => ∃ ws, H' D1 = some (.lst ws) ∧ DTs H' ws ((pt.sets.take i).map fun s => optU s.src) ∧ Same Ha H' ∧ ws.length ≤ i) ⟨[], upd_same, .nil, Same.upd hD1, Nat.zero_le _⟩ (fun i H' _ h => SqT.of (h.choose_spec.2.2.1 _ _ hs1)) (fun i z H2 H3 hi h y => ?_) (fun H2 h => ?_)
    · obtain ⟨ws, hDw, dw, s2, lw⟩ := h
      obtain ⟨rfl, y⟩ := y
      obtain ⟨d, e1, e2⟩ := (dsv1.keep (Tups.same s2)).at_ y
      rw [List.getElem?_map] at e1
      obtain ⟨sg, hsg, rfl⟩ := Option.map_eq_some_iff.mp e1
      obtain ⟨ca, vy, rfl, hca, dvy⟩ := stg_at e2
      walk_at "rr"
      refine ⟨rfl, k_yes ?_⟩
      walk_at "rr"
      have tu : ∀ v : V, Tups H3 (upd H3 D1 (.lst (ws ++ [v]))) := fun v => tups_upd hDw fun _ z => by cases z
      refine ⟨ws, hDw, k_szL (by omega), ws ++ [vy], upd_same, ?_, same_off s2 hD1, by rw [List.length_append]; simp; omega⟩
      rw [List.take_add_one, hsg, List.map_append]
      exact (dw.keep (tu _)).app (.cons (dvy.keep (tu _)) .nil)
    obtain ⟨ws, hDw, dw, s2, lw⟩ := h
    rw [lsv, List.take_length] at dw
    have s12 := s1.trans s2
    have gLz2 := s2 _ _ gLz
    have dtv2 := dtv.keep (Tups.same s12)
    walk_at "rr"
    refine ⟨La, D1, tv, ws, rfl, rfl, gLz2, hDw, by rw [sizeLine_eq]; omega, fun Lb hL1 => ?_⟩
    have dA : DTs H2 (tv ++ ws) ((pt.told.map some ++ pt.sets.map Stg.src).map optU) := by
      rw [List.map_append, List.map_map, List.map_map]
      exact dtv2.app dw
    generalize hHb : upd H2 Lb _ = Hb
    have s2b : Same H2 Hb := hHb ▸ Same.upd hL1
    have gLy : Hb Lb = some (.lst (tv ++ ws)) := hHb ▸ upd_same
    have s1b := s12.trans s2b
    have dA1 := dA.keep (Tups.same s2b)
    have lA : (tv ++ ws).length ≤ 7 := by rw [List.length_append]; omega
    generalize tv ++ ws = al1 at dA1 gLy lA
    have hab := s1b _ _ ha
    have hqb := s1b _ _ hq
    have dqvb := dqv.keep (Tups.same s1b)
    walk_at "rr"
    refine ⟨q, rfl, ⟨_, SqT.of hqb⟩, fun D2 hD2 => ?_⟩
    refine lc_it (walk_tup (xs := qv)) (fun i H' => ∃ ws, H' D2 = some (.lst ws) ∧ DTs H' ws ((pt.probes.take i).map fun s => optU (some s.use)) ∧ Same Hb H' ∧ ws.length ≤ i) ⟨[], upd_same, .nil, Same.upd hD2, Nat.zero_le _⟩ (fun i H' _ h => SqT.of (h.choose_spec.2.2.1 _ _ hqb)) (fun i z H4 H3 hi h y => ?_) (fun H3 h => ?_)
    · obtain ⟨ws, hDw, dw, s2, lw⟩ := h
      obtain ⟨rfl, y⟩ := y
      obtain ⟨d, e1, e2⟩ := (dqvb.keep (Tups.same s2)).at_ y
      rw [List.getElem?_map] at e1
      obtain ⟨pb, hpb, rfl⟩ := Option.map_eq_some_iff.mp e1
      obtain ⟨ca, o, l, os, vy, rfl, hca, _, _, hl, dvy⟩ := prb_at e2
      walk_at "rr"
      refine ⟨rfl, k_yes ?_⟩
      walk_at "rr"
      have tu : ∀ v : V, Tups H3 (upd H3 D2 (.lst (ws ++ [v]))) := fun v => tups_upd hDw fun _ z => by cases z
      refine ⟨ws, hDw, k_szL (by omega), ws ++ [vy], upd_same, ?_, same_off s2 hD2, by rw [List.length_append]; simp; omega⟩
      rw [List.take_add_one, hpb, List.map_append]
      exact (dw.keep (tu _)).app (.cons (dvy.keep (tu _)) .nil)
    obtain ⟨us, hDu, du, s3, lu⟩ := h
    rw [lqv, List.take_length] at du
    have s13 := s1b.trans s3
    have gLy3 := s3 _ _ gLy
    have dA3 := dA1.keep (Tups.same s3)
    walk_at "rr"
    refine ⟨Lb, D2, al1, us, rfl, rfl, gLy3, hDu, by rw [sizeLine_eq]; omega, fun Lc hL2 => ?_⟩
    have dB : DTs H3 (al1 ++ us) ((pt.told.map some ++ pt.sets.map Stg.src ++ pt.probes.map fun q => some q.use).map optU) := by
      rw [List.map_append, List.map_map (l := pt.probes)]
      exact dA3.app du
    generalize hHc : upd H3 Lc _ = Hc
    have s3c : Same H3 Hc := hHc ▸ Same.upd hL2
    have gLx : Hc Lc = some (.lst (al1 ++ us)) := hHc ▸ upd_same
    have s1c := s13.trans s3c
    have dB1 := dB.keep (Tups.same s3c)
    have lB : (al1 ++ us).length ≤ 9 := by rw [List.length_append]; omega
    generalize al1 ++ us = al2 at dB1 gLx lB
    have hac := s1c _ _ ha
    have hcc := s1c _ _ hc
    have dcvc := dcv.keep (Tups.same s1c)
    walk_at "rr"
    let Pv : Nat → L2.St → Hp → Prop := fun i σ H' => ∃ (Lx : Addr) (o3 o4 o5 o6 : Option V) (vs : List V), σ = [some (.ref a), some (.str al), some (.ref Lx), o3, o4, o5, o6, none] ∧ Same H H' ∧ H' Lx = some (.lst vs) ∧ vs.length ≤ 9 + 2 * i ∧
      DTs H' vs ((pt.told.map some ++ pt.sets.map Stg.src ++ pt.probes.map (fun q => some q.use) ++ (pt.conds.take i).flatMap fun c => [some c.x, c.y]).map optU)
    refine ⟨c, rfl, ⟨_, SqT.of hcc⟩, for_it (walk_tup (xs := cv)) Pv ⟨Lc, none, none, none, none, al2, rfl, s1c, gLx, by omega, by simpa using dB1⟩ (fun i σ H' _ h => ?_) (fun i x σ H5 H6 hi h y => ?_) fun σ H5 h => ?_⟩
    · obtain ⟨_, _, _, _, _, _, _, s5, _⟩ := h
      exact SqT.of (s5 _ _ hc)
    · obtain ⟨Lx, o3, o4, o5, o6, vs, rfl, s5, gx, lvs, dvs⟩ := h
      obtain ⟨rfl, y⟩ := y
      obtain ⟨d, e1, e2⟩ := (dcv.keep (Tups.same s5)).at_ y
      rw [List.getElem?_map] at e1
      obtain ⟨cn, hcn, rfl⟩ := Option.map_eq_some_iff.mp e1
      obtain ⟨ca, vx, vy, rfl, hca, dvx, dvy⟩ := cond_at e2
      have hi3 : i < pt.conds.length := (List.getElem?_eq_some_iff.mp hcn).1
      refine k_gTup (SqT.of hca) rfl ?_
      walk_at "rr"
      refine ⟨k_sz rfl, fun g hg => ?_⟩
      refine ⟨Lx, g, vs, [vx, vy], rfl, rfl, lk_new gx hg, upd_same, by rw [sizeLine_eq]; simp; omega, fun Ld hL3 => ?_⟩
      have s6 : Same H6 (upd (upd H6 g (.lst [vx, vy])) Ld (.lst (vs ++ [vx, vy]))) := (Same.upd hg).trans (Same.upd hL3)
      have tp := Tups.same s6
      walk_at "rr"
      refine ⟨Ld, _, _, _, _, vs ++ [vx, vy], rfl, s5.trans s6, upd_same, by rw [List.length_append]; simp; omega, ?_⟩
      have e3 : (pt.conds.take (i + 1)).flatMap (fun c => [some c.x, c.y]) = (pt.conds.take i).flatMap (fun c => [some c.x, c.y]) ++ [some cn.x, cn.y] := by
        rw [List.take_add_one, hcn, List.flatMap_append]
        simp
      rw [e3, ← List.append_assoc, List.map_append]
      exact (dvs.keep tp).app (.cons (dvx.keep tp) (.cons (dvy.keep tp) .nil))
    · obtain ⟨Lx, o3, o4, o5, o6, vs, rfl, s5, gx, lvs, dvs⟩ := h
      rw [lcv, List.take_length] at dvs
      rw [lcv] at lvs
      have dvs : DTs H5 vs ((byCells pt).map optU) := dvs
      have lby : vs.length = (byCells pt).length := by rw [dvs.len, List.length_map]
      walk_at "rr"
      refine ⟨Lx, rfl, ⟨_, SqL.of gx⟩, fun D5 hD5 => ?_⟩
      refine lc_it (walk_list (xs := vs)) (fun i H' => ∃ zs : List Str, zs = ((byCells pt).take i).filterMap (pickCol al) ∧ H' D5 = some (.lst (zs.map V.str)) ∧ Same H5 H' ∧ zs.length ≤ i) ⟨[], rfl, upd_same, Same.upd hD5, Nat.zero_le _⟩ (fun i H' _ h => SqL.of (h.choose_spec.2.2.1 _ _ gx)) (fun i z H6 H7 hi h y => ?_) (fun H6 h => ?_)
      · obtain ⟨zs, ezs, hDz, s6, lz⟩ := h
        obtain ⟨rfl, y⟩ := y
        obtain ⟨d, e1, e2⟩ := (dvs.keep (Tups.same s6)).at_ y
        rw [List.getElem?_map] at e1
        obtain ⟨o, ho, rfl⟩ := Option.map_eq_some_iff.mp e1
        have tk : ((byCells pt).take (i + 1)).filterMap (pickCol al) = ((byCells pt).take i).filterMap (pickCol al) ++ (pickCol al o).toList := by
          rw [List.take_add_one, ho, List.filterMap_append]
          cases h : pickCol al o <;> simp [List.filterMap_cons, h]
        rcases optU_isN e2 with ⟨rfl, rfl⟩ | ⟨u, b, rfl, rfl, hu⟩
        · walk_at "rr"
          refine ⟨rfl, ?_⟩
          walk_at "rr"
          refine ⟨rfl, ?_⟩
          refine ⟨false, rfl, ?_⟩
          exact ⟨zs, by rw [tk, ezs]; simp [pickCol], hDz, s6, by omega⟩
        · obtain ⟨b', e, hb⟩ := use_at hu
          cases e
          walk_at "rr"
          refine ⟨rfl, ?_⟩
          walk_at "rr"
          refine ⟨rfl, ?_⟩
          refine ⟨true, rfl, ?_⟩
          walk_at "rr"
          refine k_iteD (fun e => ?_) fun e => ?_
          · have e : u.1 = al := V.str.inj e
            walk_at "rr"
            have ez : pickCol al (some u) = some u.2 := if_pos e
            refine ⟨_, hDz, k_szL (by rw [List.length_map]; omega), zs ++ [u.2], by rw [tk, ezs, ez]; rfl, by rw [upd_same, List.map_append]; rfl, same_off s6 hD5, by rw [List.length_append]; simp; omega⟩
          · have e : ¬ u.1 = al := fun z => e (congrArg V.str z)
            have ez : pickCol al (some u) = none := if_neg e
            exact ⟨zs, by rw [tk, ezs, ez]; simp, hDz, s6, by omega⟩
      · obtain ⟨zs, ezs, hDz, s6, lz⟩ := h
        rw [lby, List.take_length] at ezs
        walk_at "rr"
        refine ⟨D5, zs, rfl, .inl (SqL.of hDz), by omega, fun g hg => ?_⟩
        walk_at "rr"
        refine ⟨g, zs, rfl, upd_same, fun g2 ys hg2 asc mem => ?_⟩
        walk_at "rr"
        refine ⟨g2, _, rfl, .inl ⟨SqL.of upd_same, fun b hb => ?_⟩⟩
        refine k b ys _ asc (fun z => (mem z).trans (by rw [ezs]; exact by_mem pt al z)) upd_same ((s5.trans s6).trans ((Same.upd hg).trans ((Same.upd hg2).trans (Same.upd hb))))
end
end K11

set_option Elab.async false
set_option maxRecDepth 100000
set_option maxHeartbeats 4000000
set_option linter.unusedVariables false
namespace K11
open PySem PySem.Spec PyProof.Rows L2 Own
-- steps
local macro_rules | `(tactic| walk_at "lk") => `(tactic| first
  | assumption | exact upd_same
  | ((with_reducible refine' lk_new ?e (by assumption)); (case e => walk_at "lk"))
  | ((with_reducible refine' lk_ext (by assumption) ?e); (case e => walk_at "lk"))
  | ((with_reducible refine' lk_same (by assumption) ?e); (case e => walk_at "lk")))
local macro_rules | `(tactic| walk_at "sq") => `(tactic| first | assumption | exact SqL.of (by walk_at "lk") | exact SqT.of (by walk_at "lk"))
local macro_rules | `(tactic| walk_at "r1") => `(tactic| first
  | with_reducible refine k_seq ?_ | with_reducible refine k_asg ?_ | with_reducible refine k_ret ?_ | with_reducible refine k_drop ?_ | with_reducible refine k_next ?_ | with_reducible refine k_ifS ?_
  | ((with_reducible refine' k_var ?e ?_); (case e => exact rfl)) | with_reducible refine k_c ?_ | with_reducible refine k_op ?_ | with_reducible refine k_un ?_ | with_reducible refine k_test ?_ | with_reducible refine k_B ?_
  | with_reducible refine k_and ?_ | with_reducible refine k_or ?_ | with_reducible refine k_not ?_ | with_reducible refine k_andV ?_ | with_reducible refine k_orV ?_ | with_reducible refine k_notV ?_ | with_reducible refine k_if ?_
  | with_reducible refine k_nil ?_ | with_reducible refine k_cons ?_ | with_reducible refine k_tup ?_ | with_reducible refine k_lst ?_ | with_reducible refine k_call ?_ | with_reducible refine k_cb ?_ | with_reducible refine k_ck ?_
  | with_reducible refine k_par ?_ | with_reducible refine k_par1 ?_ | with_reducible refine k_tr ?_ | with_reducible refine k_rI0 ?_ | with_reducible refine k_rU ?_
  | with_reducible refine k_gN ?_ | with_reducible refine k_gS ?_ | with_reducible refine k_gNil ?_ | with_reducible refine k_gCons ?_ | with_reducible refine k_bm0 ?_ | with_reducible refine k_bm ?_
  | with_reducible refine k_for ?_ | with_reducible refine k_iL ?_ | with_reducible refine k_iT ?_ | with_reducible refine k_iR1 ?_ | ((with_reducible refine k_iR1i ?e ?_); (case e => first | decide | exact ⟨by omega, by omega⟩))
  | with_reducible refine k_max ?_ | with_reducible refine k_isB ?_ | with_reducible refine k_sl ?_ | with_reducible refine k_noP ?_ | with_reducible refine k_part ?_ | with_reducible refine k_partI ?_ | with_reducible refine k_revL ?_
  | ((with_reducible refine' k_ixqT ?e ?f ?_); (case e => walk_at "sq"); (case f => first | exact rfl | exact atI_head))
  | ((with_reducible refine' k_ixqL ?e ?f ?_); (case e => walk_at "sq"); (case f => first | exact rfl | exact atI_head))
  | ((with_reducible refine' k_lenL ?e ?_); (case e => walk_at "sq"))
  | ((with_reducible refine' k_lenT ?e ?_); (case e => walk_at "sq"))
  | ((with_reducible refine' k_ixL ?e ?f ?_); (case e => walk_at "sq"); (case f => first | exact rfl | exact atI_head))
  | ((with_reducible refine' k_ixT ?e ?f ?_); (case e => walk_at "sq"); (case f => first | exact rfl | exact atI_head))
  | ((with_reducible refine k_eq ?e ?_); (case e => exact rfl)) | ((with_reducible refine k_ne ?e ?_); (case e => exact rfl))
  | ((with_reducible refine k_rI ?e ?_); (case e => first | assumption | omega | decide | exact ⟨by omega, by omega⟩ | exact .inl ⟨by omega, by omega⟩ | exact .inr ⟨by omega, by omega⟩)))
local macro_rules | `(tactic| walk_at "rd") => `(tactic| repeat walk_at "r1")
local macro_rules | `(tactic| walk_at "r2") => `(tactic| first
  | walk_at "r1"
  | with_reducible refine k_ifTt ?_ | with_reducible refine k_ifFf ?_ | with_reducible refine k_ifNt ?_ | with_reducible refine k_ifNf ?_
  | with_reducible refine k_makeR ?_ | with_reducible refine k_tJ ?_ | with_reducible refine k_tJc ?_ | with_reducible refine k_tJn ?_ | with_reducible refine k_fmt ?_ | with_reducible refine k_lc ?_ | with_reducible refine k_din ?_ | with_reducible refine k_fld ?_ | with_reducible refine k_dget ?_
  | with_reducible refine k_dput ?_
  | with_reducible refine k_isNv ?_
  | with_reducible refine k_notNv ?_
  | with_reducible refine k_str ?_
  | with_reducible refine k_enumT ?_
  | with_reducible refine k_zipA ?_
  | with_reducible refine k_chain ?_
  | ((with_reducible refine' k_dgS ?e dkv_cells ?_); (case e => walk_at "lk"))
  | ((with_reducible refine' k_dgS ?e dkv_mixed ?_); (case e => walk_at "lk"))
  | ((with_reducible refine' k_dgS ?e dkv_turn ?_); (case e => walk_at "lk")))
local macro_rules | `(tactic| walk_at "rr") => `(tactic| repeat walk_at "r2")
local macro_rules | `(tactic| walk_at "r2") => `(tactic| first
  | with_reducible refine k_lc2 ?_ | with_reducible refine k_scT ?_ | with_reducible refine k_ixO ?_ | with_reducible refine k_star ?_)
local macro_rules | `(tactic| walk_at "r2") => `(tactic| first | with_reducible refine k_fldE ?_ | with_reducible refine k_prop ?_)
-- steps end
theorem k_meth {C : Addr} {m : Str} {sp : Sp} {E : XK} {ta : TE} {t : TA} {σ : L2.St} {H : Hp} {Q : VK} (h : ta σ H fun x H1 => ∃ a dx fs, x = .ref a ∧ H1 a = some (.ins C dx fs) ∧ fs.lookup m = none ∧ t σ H1 fun vs H2 => sp (x :: (vs ++ [])) H2 Q E) : tMeth C m sp [] E ta t σ H Q := h
theorem k_mk {C : Addr} {m : Str} {n mm : Nat} {sp : Sp} {gV : List V → List V → List V} {E : L2.St → XK} {to : TE} {t tk : TA} {σ : L2.St} {H : Hp} {Q : VK} (h : to σ H fun x H1 => ∃ a dx fs, x = .ref a ∧ H1 a = some (.ins C dx fs) ∧ fs.lookup m = none ∧ t σ H1 fun vs H2 => tk σ H2 fun zs H3 => (V.ref a :: vs).length = n ∧ zs.length = mm ∧ sp (gV (.ref a :: vs) zs) H3 Q (E σ)) : tMK C m n mm sp gV E to t tk σ H Q := h
/-! ### how large -/
theorem sml_log {v : Int} (h : Sml v) : v.natAbs.log2 < 41 := by
  by_cases e : v.natAbs = 0
  · rw [e]
    decide
  · rw [Nat.log2_lt e]
    have z : (2 : Nat) ^ 41 = 2199023255552 := by decide +kernel
    omega
theorem fit_int {v : Int} (h : Sml v) : Own.Fit 42 0 (.int v) := by
  have l := sml_log h
  refine ⟨?_, rfl, ?_, Nat.le_refl _, ?_⟩
  · show decide _ = true
    exact decide_eq_true (by omega)
  · show decide _ = true
    refine decide_eq_true ?_
    rw [PyData.shown_int, PySem.ofString_length]
    exact int_text_length_le10 (k := 12) (by decide) (by have z : (10 : Nat) ^ 12 = 1000000000000 := by decide +kernel
                                                         omega)
  · show (if (v == 0) = true then 0 else v.natAbs.log2 + 1) ≤ 42
    split <;> omega
theorem name_len {z : Str} (h : isNameB z = true) : z.length ≤ 100 := by
  unfold isNameB at h
  simp only [Bool.and_eq_true, decide_eq_true_eq] at h
  omega
theorem fit_nm {z : Str} (h : isNameB z = true) : Own.Fit 1000 0 (.str z) := fit_str (name_ok h) (name_len h)
theorem fit_op {z : Str} (h : z ∈ (["<=", "=", "!=", ">=", "some", "none", "update", "delete", "insert"] : List Str)) : Own.Fit 1000 0 (.str z) := by
  have q : ∀ z ∈ (["<=", "=", "!=", ">=", "some", "none", "update", "delete", "insert"] : List Str), PyData.strOk z = true ∧ z.length ≤ 100 := by decide +kernel
  exact fit_str (q z h).1 (q z h).2
theorem fit_non : Own.Fit 0 0 .none := ⟨rfl, rfl, rfl, Nat.le_refl _, Nat.le_refl _⟩
theorem fit_use {u : Use} (h : isNameB u.1 = true ∧ isNameB u.2 = true) : Own.Fit 2002 1 (useD u) := fit_tup ((fit_cons (fit_nm h.1) (fit_cons (fit_nm h.2) fit_nil)).mono (by omega) (Nat.le_refl _))
theorem fit_optU {o : Option Use} (h : ∀ u, o = some u → isNameB u.1 = true ∧ isNameB u.2 = true) : Own.Fit 2002 1 (optU o) := by
  cases o with
  | none => exact fit_non.mono (by omega) (by omega)
  | some u => exact fit_use (h u rfl)
theorem fit_optS {o : Option Str} (h : ∀ u, o = some u → isNameB u = true) : Own.Fit 1000 0 (optS o) := by
  cases o with
  | none => exact fit_non.mono (by omega) (by omega)
  | some u => exact fit_nm (h u rfl)
theorem fit_all {α : Type} {f : α → PyData} {W D : Nat} : ∀ {xs : List α}, (∀ x ∈ xs, Own.Fit W D (f x)) → FitA ((W + 1) * xs.length) D (xs.map f)
  | [], _ => fit_nil
  | x :: xs, h => (fit_cons (h x List.mem_cons_self) (fit_all fun y hy => h y (List.mem_cons_of_mem _ hy))).mono (by simp only [List.length_cons]; rw [Nat.mul_add]; omega) (Nat.le_refl _)
theorem fit_few {α : Type} {f : α → PyData} {W D n : Nat} {xs : List α} (h : ∀ x ∈ xs, Own.Fit W D (f x)) (l : xs.length ≤ n) : Own.Fit ((W + 1) * n) (D + 1) (.tuple (xs.map f)) :=
  fit_tup ((fit_all h).mono (Nat.mul_le_mul_left _ l) (Nat.le_refl _))
theorem fit_cond {c : Cond} {us : List Use} (i : c.In us) (ok : UsOk us) : Own.Fit 5100 2 c.d :=
  fit_tup ((fit_cons (fit_use (ok _ i.1)) (fit_cons (fit_op (by have := i.2.2.1; simp at this ⊢; rcases this with e | e | e <;> simp [e]) |>.mono (Nat.le_refl _) (by omega)) (fit_cons (fit_optU fun u hu => ok u (i.2.1 u hu)) (fit_cons ((fit_int i.2.2.2).mono (Nat.le_refl _) (by omega)) fit_nil)))).mono (by omega) (by omega))
theorem fit_cmp {c : Cmp} {cs : List Str} (i : c.In cs) (ok : ∀ z ∈ cs, isNameB z = true) : Own.Fit 3100 1 c.d :=
  fit_tup ((fit_cons (fit_nm (ok _ i.1)) (fit_cons (fit_op (by have := i.2.2.1; simp [opt2] at this ⊢; rcases this with e | e <;> simp [e])) (fit_cons (fit_optS fun u hu => ok u (i.2.1 u hu)) (fit_cons (fit_int i.2.2.2) fit_nil)))).mono (by omega) (by omega))
theorem fit_prb {p : Prb} {t : T} {us : List Use} (i : p.In t us) (ok : UsOk us) (tok : t.Ok) : Own.Fit 14000 3 p.d := by
  have f1 : Own.Fit 1000 0 (.str p.word) := fit_op (by rcases i.wd with e | e <;> simp [e])
  have f2 : Own.Fit 1000 0 (.str p.tb) := fit_nm (by rw [i.tb]; exact tok.nm)
  have f3 := fit_few (n := 2) (f := Cmp.d) (fun c hc => fit_cmp (i.ow c hc) tok.cn) i.ol
  have f4 : Own.Fit 4100 2 (.tuple [.str p.col, .str p.op, useD p.use, .int p.k]) :=
    fit_tup ((fit_cons ((fit_nm (tok.cn _ i.cl)).mono (Nat.le_refl _) (Nat.zero_le _)) (fit_cons ((fit_op (by have := i.op; simp [opt3] at this ⊢; rcases this with e | e | e <;> simp [e])).mono (Nat.le_refl _) (Nat.zero_le _)) (fit_cons (fit_use (ok _ i.us)) (fit_cons ((fit_int i.k).mono (Nat.le_refl _) (Nat.zero_le _)) fit_nil)))).mono (by omega) (Nat.le_refl _))
  exact fit_tup ((fit_cons (f1.mono (Nat.le_refl _) (Nat.zero_le 2)) (fit_cons (f2.mono (Nat.le_refl _) (Nat.zero_le 2)) (fit_cons f3 (fit_cons f4 fit_nil)))).mono (by omega) (Nat.le_refl _))
theorem fit_stg {s : Stg} (h : isNameB s.col = true) (h2 : ∀ u, s.src = some u → isNameB u.1 = true ∧ isNameB u.2 = true) (h3 : Sml s.k) : Own.Fit 3100 2 s.d :=
  fit_tup ((fit_cons ((fit_nm h).mono (Nat.le_refl _) (Nat.zero_le _)) (fit_cons (fit_optU h2) (fit_cons ((fit_int h3).mono (Nat.le_refl _) (Nat.zero_le _)) fit_nil))).mono (by omega) (Nat.le_refl _))
theorem sets_few {kind a0 : Str} {t : T} {us : List Use} {sets : List Stg} (tok : t.Ok) (h : SetsOk kind t.cs us a0 sets) (hk : kind = "update" ∨ kind = "delete" ∨ kind = "insert") : sets.length ≤ 3 ∧ ∀ s ∈ sets, isNameB s.col = true := by
  have c3 := tok.c3
  have nm : ∀ s ∈ sets, s.col ∈ t.cs → isNameB s.col = true := fun s _ h => tok.cn _ h
  rcases hk with e | e | e
  · have := some_len (h.upd e).2.1 (h.upd e).2.2
    rw [List.length_map] at this
    exact ⟨by omega, fun s hs => nm s hs ((h.upd e).2.2 _ (List.mem_map.mpr ⟨s, hs, rfl⟩))⟩
  · rw [h.del e]
    exact ⟨Nat.zero_le _, fun s hs => by cases hs⟩
  · have : (sets.map Stg.col).length = t.cs.length := by rw [h.ins e]
    rw [List.length_map] at this
    exact ⟨by omega, fun s hs => nm s hs (by rw [← h.ins e]; exact List.mem_map.mpr ⟨s, hs, rfl⟩)⟩
section
variable {ts : List AT} {p : Pt}
theorem Fit.sets (f : Fit ts p) (ok : ∀ x ∈ ts, x.2.Ok) : p.sets.length ≤ 3 ∧ (∀ s ∈ p.sets, isNameB s.col = true) ∧ ∀ s ∈ p.sets, Sml s.k ∧ ∀ u, s.src = some u → u ∈ usesOf ts p.refs := by
  obtain ⟨t, mt, _, sok⟩ := f.tb
  obtain ⟨u0, hu0⟩ : ∃ u, p.refs[0]? = some u := ⟨_, List.getElem?_eq_getElem (by have := f.r1; omega)⟩
  have q := sets_few (ok t mt) (sok u0 hu0) f.kind
  exact ⟨q.1, q.2, fun s hs => ⟨((sok u0 hu0).src s hs).1, fun u hu => (((sok u0 hu0).src s hs).2 u hu).1⟩⟩
theorem Fit.few (f : Fit ts p) (ok : ∀ x ∈ ts, x.2.Ok) : Few p := ⟨f.cl, f.pl, (f.sets ok).1, f.tl⟩
theorem Fit.refsOk (f : Fit ts p) (ok : ∀ x ∈ ts, x.2.Ok) : UsOk p.refs := fun u hu => ⟨f.an u hu, by
  obtain ⟨t, ht, hn⟩ := f.rt u hu
  rw [← hn]
  exact (ok t ht).nm⟩
theorem fit_pt (f : Fit ts p) (ok : ∀ x ∈ ts, x.2.Ok) : Own.Fit 150000 5 p.d := by
  have uok := uses_ok ok f.an
  obtain ⟨t, mt, etb, _⟩ := f.tb
  obtain ⟨l3, hc, hs⟩ := f.sets ok
  have f1 : Own.Fit 1000 0 (.str p.kind) := fit_op (by rcases f.kind with e | e | e <;> simp [e])
  have f2 : Own.Fit 1000 0 (.str p.tb) := fit_nm (by rw [etb]; exact (ok t mt).nm)
  have f3 := fit_few (n := 2) (f := useD) (fun u hu => fit_use (f.refsOk ok u hu)) f.r2
  have f4 := fit_few (n := 5) (f := Cond.d) (fun c hc => fit_cond (f.cs c hc) uok) f.cl
  have f5 := fit_few (n := 2) (f := Prb.d) (W := 14000) (D := 3) (fun q hq => by
    obtain ⟨x, hx, i, _⟩ := f.ps q hq
    exact fit_prb i uok (ok x hx)) f.pl
  have f6 := fit_few (n := 3) (f := Stg.d) (fun s h => fit_stg (hc s h) (fun u hu => uok u ((hs s h).2 u hu)) (hs s h).1) l3
  have f7 := fit_few (n := 4) (f := useD) (fun u hu => fit_use (uok u (f.td u hu))) f.tl
  have m4 : ∀ {W D : Nat} {d : PyData}, Own.Fit W D d → D ≤ 4 → Own.Fit W 4 d := fun a h => a.mono (Nat.le_refl _) h
  exact fit_tup ((fit_cons (m4 f1 (by omega)) (fit_cons (m4 f2 (by omega)) (fit_cons (m4 f3 (by omega)) (fit_cons (m4 f4 (by omega)) (fit_cons (m4 f5 (by omega)) (fit_cons (m4 f6 (by omega)) (fit_cons (m4 f7 (by omega)) fit_nil))))))).mono (by omega) (Nat.le_refl _))
theorem cols_fine (f : Fit ts p) (ok : ∀ x ∈ ts, x.2.Ok) (al : Str) : (∀ z ∈ readCols p al, isNameB z = true) ∧ (readCols p al).length ≤ 19 := by
  have uok := uses_ok ok f.an
  obtain ⟨l3, hc, hs⟩ := f.sets ok
  have l1 := f.cl
  have l2 := f.pl
  have l4 := f.tl
  have lc : (condUses p.conds).length ≤ 2 * p.conds.length := by
    unfold condUses
    generalize p.conds = cs
    induction cs with
    | nil => exact Nat.zero_le _
    | cons c cs ih =>
      rw [List.flatMap_cons, List.length_append, List.length_cons, List.length_cons]
      have : c.y.toList.length ≤ 1 := by cases c.y <;> simp
      omega
  have ls : (srcUses p.sets).length ≤ p.sets.length := List.length_filterMap_le _ _
  refine ⟨fun z hz => ?_, ?_⟩
  · unfold readCols at hz
    obtain ⟨u, hu, rfl⟩ := List.mem_map.mp hz
    have hu := (List.mem_filter.mp hu).1
    have mem : u ∈ usesOf ts p.refs := by
      unfold readCells at hu
      rcases List.mem_append.mp hu with h | h
      · unfold condUses at h
        obtain ⟨c, hc, h⟩ := List.mem_flatMap.mp h
        rcases List.mem_cons.mp h with rfl | h
        · exact (f.cs c hc).1
        · exact (f.cs c hc).2.1 u (Option.mem_toList.mp h)
      · rcases List.mem_append.mp h with h | h
        · obtain ⟨q, hq, rfl⟩ := List.mem_map.mp h
          obtain ⟨x, hx, i, _⟩ := f.ps q hq
          exact i.us
        · rcases List.mem_append.mp h with h | h
          · unfold srcUses at h
            obtain ⟨s, h1, h2⟩ := List.mem_filterMap.mp h
            exact (hs s h1).2 u h2
          · exact f.td u h
    exact (uok u mem).2
  · have : (readCols p al).length ≤ (readCells p).length := by
      unfold readCols
      rw [List.length_map]
      exact List.length_filter_le _ _
    have e : (readCells p).length = (condUses p.conds).length + (p.probes.length + ((srcUses p.sets).length + p.told.length)) := by
      unfold readCells
      simp only [List.length_append, List.length_map]
    omega
end
theorem asc_uniq : ∀ {ys zs : List Str}, ys.Pairwise txLt → zs.Pairwise txLt → (∀ z, z ∈ ys ↔ z ∈ zs) → ys = zs
  | [], [], _, _, _ => rfl
  | [], z :: zs, _, _, h => by
    have := (h z).mpr List.mem_cons_self
    cases this
  | y :: ys, [], _, _, h => by
    have := (h y).mp List.mem_cons_self
    cases this
  | y :: ys, z :: zs, hy, hz, h => by
    obtain ⟨hy1, hy2⟩ := List.pairwise_cons.mp hy
    obtain ⟨hz1, hz2⟩ := List.pairwise_cons.mp hz
    have irr : ∀ a : Str, ¬ txLt a a := fun a l => absurd l (List.lt_irrefl _)
    have e : y = z := by
      rcases List.mem_cons.mp ((h y).mp List.mem_cons_self) with e | e
      · exact e
      · rcases List.mem_cons.mp ((h z).mpr List.mem_cons_self) with e2 | e2
        · exact e2.symm
        · exact absurd (List.lt_trans (hz1 y e) (hy1 z e2)) (List.lt_irrefl _)
    subst e
    rw [asc_uniq hy2 hz2 fun w => ?_]
    constructor
    · intro m
      rcases List.mem_cons.mp ((h w).mp (List.mem_cons_of_mem _ m)) with e | e
      · subst e
        exact absurd (hy1 w m) (irr w)
      · exact e
    · intro m
      rcases List.mem_cons.mp ((h w).mpr (List.mem_cons_of_mem _ m)) with e | e
      · subst e
        exact absurd (hz1 w m) (irr w)
      · exact e
theorem rep_cols {ts : List AT} {p : Pt} (f : Fit ts p) (ok : ∀ x ∈ ts, x.2.Ok) {al : Str} {ys : List Str} (asc : ys.Pairwise txLt) (m : Mem ys (readCols p al)) : RepD (.tuple (ys.map .str)) := by
  obtain ⟨n, l⟩ := cols_fine f ok al
  have ly := sub_len (asc_nodup asc) fun x hx => (m x).mp hx
  exact (fit_few (n := 19) (f := PyData.str) (fun z hz => fit_nm (n z ((m z).mp hz))) (by omega)).repr (by omega) (by omega)
end K11

set_option Elab.async false
set_option maxRecDepth 100000
set_option maxHeartbeats 4000000
set_option linter.unusedVariables false
namespace K11
open PySem PySem.Spec PyProof.Rows L2 Own
-- steps
local macro_rules | `(tactic| walk_at "lk") => `(tactic| first
  | assumption | exact upd_same
  | ((with_reducible refine' lk_new ?e (by assumption)); (case e => walk_at "lk"))
  | ((with_reducible refine' lk_ext (by assumption) ?e); (case e => walk_at "lk"))
  | ((with_reducible refine' lk_same (by assumption) ?e); (case e => walk_at "lk")))
local macro_rules | `(tactic| walk_at "sq") => `(tactic| first | assumption | exact SqL.of (by walk_at "lk") | exact SqT.of (by walk_at "lk"))
local macro_rules | `(tactic| walk_at "r1") => `(tactic| first
  | with_reducible refine k_seq ?_ | with_reducible refine k_asg ?_ | with_reducible refine k_ret ?_ | with_reducible refine k_drop ?_ | with_reducible refine k_next ?_ | with_reducible refine k_ifS ?_
  | ((with_reducible refine' k_var ?e ?_); (case e => exact rfl)) | with_reducible refine k_c ?_ | with_reducible refine k_op ?_ | with_reducible refine k_un ?_ | with_reducible refine k_test ?_ | with_reducible refine k_B ?_
  | with_reducible refine k_and ?_ | with_reducible refine k_or ?_ | with_reducible refine k_not ?_ | with_reducible refine k_andV ?_ | with_reducible refine k_orV ?_ | with_reducible refine k_notV ?_ | with_reducible refine k_if ?_
  | with_reducible refine k_nil ?_ | with_reducible refine k_cons ?_ | with_reducible refine k_tup ?_ | with_reducible refine k_lst ?_ | with_reducible refine k_call ?_ | with_reducible refine k_cb ?_ | with_reducible refine k_ck ?_
  | with_reducible refine k_par ?_ | with_reducible refine k_par1 ?_ | with_reducible refine k_tr ?_ | with_reducible refine k_rI0 ?_ | with_reducible refine k_rU ?_
  | with_reducible refine k_gN ?_ | with_reducible refine k_gS ?_ | with_reducible refine k_gNil ?_ | with_reducible refine k_gCons ?_ | with_reducible refine k_bm0 ?_ | with_reducible refine k_bm ?_
  | with_reducible refine k_for ?_ | with_reducible refine k_iL ?_ | with_reducible refine k_iT ?_ | with_reducible refine k_iR1 ?_ | ((with_reducible refine k_iR1i ?e ?_); (case e => first | decide | exact ⟨by omega, by omega⟩))
  | with_reducible refine k_max ?_ | with_reducible refine k_isB ?_ | with_reducible refine k_sl ?_ | with_reducible refine k_noP ?_ | with_reducible refine k_part ?_ | with_reducible refine k_partI ?_ | with_reducible refine k_revL ?_
  | ((with_reducible refine' k_ixqT ?e ?f ?_); (case e => walk_at "sq"); (case f => first | exact rfl | exact atI_head))
  | ((with_reducible refine' k_ixqL ?e ?f ?_); (case e => walk_at "sq"); (case f => first | exact rfl | exact atI_head))
  | ((with_reducible refine' k_lenL ?e ?_); (case e => walk_at "sq"))
  | ((with_reducible refine' k_lenT ?e ?_); (case e => walk_at "sq"))
  | ((with_reducible refine' k_ixL ?e ?f ?_); (case e => walk_at "sq"); (case f => first | exact rfl | exact atI_head))
  | ((with_reducible refine' k_ixT ?e ?f ?_); (case e => walk_at "sq"); (case f => first | exact rfl | exact atI_head))
  | ((with_reducible refine k_eq ?e ?_); (case e => exact rfl)) | ((with_reducible refine k_ne ?e ?_); (case e => exact rfl))
  | ((with_reducible refine k_rI ?e ?_); (case e => first | assumption | omega | decide | exact ⟨by omega, by omega⟩ | exact .inl ⟨by omega, by omega⟩ | exact .inr ⟨by omega, by omega⟩)))
local macro_rules | `(tactic| walk_at "rd") => `(tactic| repeat walk_at "r1")
local macro_rules | `(tactic| walk_at "r2") => `(tactic| first
  | walk_at "r1"
  | with_reducible refine k_ifTt ?_ | with_reducible refine k_ifFf ?_ | with_reducible refine k_ifNt ?_ | with_reducible refine k_ifNf ?_
  | with_reducible refine k_makeR ?_ | with_reducible refine k_tJ ?_ | with_reducible refine k_tJc ?_ | with_reducible refine k_tJn ?_ | with_reducible refine k_fmt ?_ | with_reducible refine k_lc ?_ | with_reducible refine k_din ?_ | with_reducible refine k_fld ?_ | with_reducible refine k_dget ?_
  | with_reducible refine k_dput ?_
  | with_reducible refine k_isNv ?_
  | with_reducible refine k_notNv ?_
  | with_reducible refine k_str ?_
  | with_reducible refine k_enumT ?_
  | with_reducible refine k_zipA ?_
  | with_reducible refine k_chain ?_
  | ((with_reducible refine' k_dgS ?e dkv_cells ?_); (case e => walk_at "lk"))
  | ((with_reducible refine' k_dgS ?e dkv_mixed ?_); (case e => walk_at "lk"))
  | ((with_reducible refine' k_dgS ?e dkv_turn ?_); (case e => walk_at "lk")))
local macro_rules | `(tactic| walk_at "rr") => `(tactic| repeat walk_at "r2")
local macro_rules | `(tactic| walk_at "r2") => `(tactic| first
  | with_reducible refine k_lc2 ?_ | with_reducible refine k_scT ?_ | with_reducible refine k_ixO ?_ | with_reducible refine k_star ?_)
local macro_rules | `(tactic| walk_at "r2") => `(tactic| first | with_reducible refine k_fldE ?_ | with_reducible refine k_prop ?_)
-- steps end
section
variable {P : Program} {w : World} {K : PySem.W.Frag} {mg : Str → Option Value} {g0 : Heap} {C S : Addr}
abbrev s_right : Stmt := top 84
theorem sc_right : FnScope ["_law_made_here", "_law_it", "_law_alias_here", "_law_name", "_law_due"] ["_law_made_here", "_law_it"] (defScope s_right) :=
  ⟨rfl, rfl, rfl, by decide +kernel, rfl, by decide +kernel, by decide +kernel⟩
structure RefS (P : Program) (w : World) (K : PySem.W.Frag) (mg : Str → Option Value) (g0 : Heap) (S C : Addr) : Prop where
  tx : TxtS K S
  pP : ∃ p g fd, PropOf K S "parts" p g ∧ FnOk P w K mg g0 CX0 1 g fd ["self"] (spPart S C) ∧ Binds K fd ["self"] []
  rd : ∃ f fd, Meth K S "reads" f ∧ FnOk P w K mg g0 CX0 3 f fd ["self", "alias"] (spReads S C) ∧ Binds K fd ["self", "alias"] [] ∧ KBn K fd ["self", "alias"] 1 ["alias"] gKw gKw
def spRightL (S C : Addr) : Sp := fun vs H Q _ => ∃ (x a p q : Addr) (ts zs : List AT) (pt : Pt), vs = [.ref x, .ref a] ∧ StmtAt S C H x p q ts zs pt ∧ DT H (.ref a) pt.d ∧ Fit ts pt ∧ ∀ H', Same H H' → Q (.bl true) H'
theorem ok_rightL {f : Addr} {fd : FuncData} (F : Fun K "_law_right" "_law_right" s_right f fd) (R : RefS P w K mg g0 S C) (C_read_by : Cal P w K mg g0 "_law_read_by" 1 ["_law_it", "_law_alias_here"] spReadBy) (z_repr : mg "repr" = none) :
    GOk P w K mg g0 CX0 5 f fd ["_law_made_here", "_law_it"] (spRightL S C) := by
  have nd := sc_right.nd
  obtain ⟨_, _, _, pP, FP, bP⟩ := R.pP
  obtain ⟨_, _, mR, FR, bR, kbR⟩ := R.rd
  refine okG F sc_right (fun vs H Q E h => ?_) (fun cdv A up s0 H vs Q E qt hr h => ?_)
  · obtain ⟨x, a, p, q, ts, zs, pt, rfl, _⟩ := h
    rfl
  · obtain ⟨x, a, p, q, ts, zs, pt, rfl, SA, hpt, fit, k⟩ := h
    have hpt0 := hpt
    obtain ⟨a', r, c, qq, st, t, e, ha, dr, dc, dq, ds, dt⟩ := pt_at hpt
    cases e
    obtain ⟨_, rs, e, hrs, drs⟩ := dr.unT
    cases e
    have lrs : rs.length = pt.refs.length := by rw [drs.len, List.length_map]
    have tok : ∀ y ∈ ts, y.2.Ok := fun y hy => (SA.sch.ok y hy).2
    have few := fit.few tok
    obtain ⟨dx, hx⟩ := SA.ex
    have fl : (flS p q).lookup ("reads" : Str) = none := flS_no _ _ (by decide +kernel) (by decide +kernel)
    obtain ⟨rp1, rp2, rp3⟩ := (fit_pt fit tok).repr (by omega) (by omega)
    refine ⟨_, (pss_cons (ps_for PassesOwn.never rfl (pi_tup (pe_ix ix_seq (pv 1) pe_int (fun _ _ => rfl))) (pg_tup rfl (pgs_cons (pg_name (i := 2) nd rfl (Or.inl rfl)) (pgs_cons (pg_name (i := 3) nd rfl (Or.inl rfl)) pgs_nil))) (pss_cons (ps_set (i := 4) nd rfl (Or.inl rfl) (pe_callB (call_repr qt hr.units) (by rfl) z_repr (by decide +kernel) (pa_cons (pe_c C_read_by qt (hr.mono (by decide)) (pa_cons (pv 1) (pa_cons (pv 2) pa_nil))) pa_nil)))
        (pss_one (ps_if (PW.pt (pw_or (pt_cmpR op_ne (pe_callB (call_repr qt hr.units) (by rfl) z_repr (by decide +kernel) (pa_cons (pe_meth (pv 0) R.tx.cl mR FR (hr.mono (by decide)) bR .nil pass0 (pa_cons (pv 2) pa_nil)) pa_nil)) (pv 4) (nomark _)) (pw_or1 (pt_cmpR op_ne (pe_callB (call_repr qt hr.units) (by rfl) z_repr (by decide +kernel) (pa_cons (pe_mk0 (E := fun _ => E0) (pv 0) R.tx.cl mR FR (hr.mono (by decide)) kbR (fun σ pins H s e s' I h => pass0 pins σ H s e s' I h) (pk_cons (pv 2) pk_nil)) pa_nil)) (pv 4) (nomark _))))) (pss_one (ps_ret pe_bl)) pss_nil))))
        (pss_one (ps_ret (pe_cmpR op_eq (pe_callB (call_repr qt hr.units) (by rfl) z_repr (by decide +kernel) (pa_cons (pe_prop (pv 0) R.tx.cl pP FP (hr.mono (by decide)) bP .nil pass0 rfl) pa_nil)) (pe_callB (call_repr qt hr.units) (by rfl) z_repr (by decide +kernel) (pa_cons (pv 1) pa_nil)) (nomark _))))), ?_⟩
    walk_at "rr"
    let Pv : Nat → L2.St → Hp → Prop := fun i σ H' => ∃ o2 o3 o4, σ = [some (.ref x), some (.ref a), o2, o3, o4] ∧ Same H H'
    refine ⟨r, rfl, ⟨_, SqT.of hrs⟩, for_it (walk_tup (xs := rs)) Pv ⟨none, none, none, rfl, Same.refl _⟩ (fun i σ H' _ h => ?_) (fun i z σ H1 H2 hi h y => ?_) fun σ H1 h => ?_⟩
    · obtain ⟨_, _, _, _, s1⟩ := h
      exact SqT.of (s1 _ _ hrs)
    · obtain ⟨o2, o3, o4, rfl, s1⟩ := h
      obtain ⟨rfl, y⟩ := y
      obtain ⟨u, b, hu, rfl, hb⟩ := uses_at (drs.keep (Tups.same s1)) y
      refine k_gTup (SqT.of hb) rfl ?_
      walk_at "rr"
      refine ⟨a, pt, u.1, rfl, hpt0.keep (Tups.same s1), few, fun b1 ys1 H3 asc1 m1 g1 s3 => ?_⟩
      obtain ⟨q1, q2, q3⟩ := rep_cols fit tok asc1 m1
      refine ⟨_, _, rfl, .tup (SqT.of g1) (DTs.strs _).dp, q1, q2, q3, ?_⟩
      have s13 := s1.trans s3
      walk_at "rr"
      refine k_meth ?_
      walk_at "rr"
      refine ⟨x, dx, _, rfl, s13 _ _ hx, fl, ?_⟩
      walk_at "rr"
      refine ⟨x, p, q, ts, zs, pt, u.1, rfl, SA.same s13, few, fun b2 ys2 H4 asc2 m2 g2 s4 => ?_⟩
      obtain rfl := asc_uniq asc1 asc2 fun z => (m1 z).trans (m2 z).symm
      refine ⟨_, _, rfl, .tup (SqT.of g2) (DTs.strs _).dp, q1, q2, q3, ?_⟩
      have s14 := s13.trans s4
      walk_at "rr"
      rw [decide_eq_true rfl]
      walk_at "rr"
      refine k_mk ?_
      walk_at "rr"
      refine ⟨x, dx, _, rfl, s14 _ _ hx, fl, ?_⟩
      walk_at "rr"
      refine ⟨rfl, rfl, x, p, q, ts, zs, pt, u.1, rfl, SA.same s14, few, fun b3 ys3 H5 asc3 m3 g3 s5 => ?_⟩
      obtain rfl := asc_uniq asc1 asc3 fun z => (m1 z).trans (m3 z).symm
      refine ⟨_, _, rfl, .tup (SqT.of g3) (DTs.strs _).dp, q1, q2, q3, ?_⟩
      have s15 := s14.trans s5
      walk_at "rr"
      rw [decide_eq_true rfl]
      walk_at "rr"
      exact ⟨_, _, _, rfl, s15⟩
    · obtain ⟨o2, o3, o4, rfl, s1⟩ := h
      walk_at "rr"
      refine ⟨x, dx, _, rfl, s1 _ _ hx, x, p, q, ts, zs, pt, rfl, SA.same s1, ?_⟩
      walk_at "rr"
      refine ⟨_, _, rfl, (SA.same s1).dat.dp, rp1, rp2, rp3, ?_⟩
      walk_at "rr"
      refine ⟨_, _, rfl, (hpt0.keep (Tups.same s1)).dp, rp1, rp2, rp3, ?_⟩
      walk_at "rr"
      rw [decide_eq_true rfl]
      exact k _ s1
end
end K11

set_option Elab.async false
set_option maxRecDepth 100000
set_option maxHeartbeats 4000000
set_option linter.unusedVariables false
namespace K11
open PySem PySem.Spec PyProof.Rows L2 Own
-- steps
local macro_rules | `(tactic| walk_at "lk") => `(tactic| first
  | assumption | exact upd_same
  | ((with_reducible refine' lk_new ?e (by assumption)); (case e => walk_at "lk"))
  | ((with_reducible refine' lk_ext (by assumption) ?e); (case e => walk_at "lk"))
  | ((with_reducible refine' lk_same (by assumption) ?e); (case e => walk_at "lk")))
local macro_rules | `(tactic| walk_at "sq") => `(tactic| first | assumption | exact SqL.of (by walk_at "lk") | exact SqT.of (by walk_at "lk"))
local macro_rules | `(tactic| walk_at "r1") => `(tactic| first
  | with_reducible refine k_seq ?_ | with_reducible refine k_asg ?_ | with_reducible refine k_ret ?_ | with_reducible refine k_drop ?_ | with_reducible refine k_next ?_ | with_reducible refine k_ifS ?_
  | ((with_reducible refine' k_var ?e ?_); (case e => exact rfl)) | with_reducible refine k_c ?_ | with_reducible refine k_op ?_ | with_reducible refine k_un ?_ | with_reducible refine k_test ?_ | with_reducible refine k_B ?_
  | with_reducible refine k_and ?_ | with_reducible refine k_or ?_ | with_reducible refine k_not ?_ | with_reducible refine k_andV ?_ | with_reducible refine k_orV ?_ | with_reducible refine k_notV ?_ | with_reducible refine k_if ?_
  | with_reducible refine k_nil ?_ | with_reducible refine k_cons ?_ | with_reducible refine k_tup ?_ | with_reducible refine k_lst ?_ | with_reducible refine k_call ?_ | with_reducible refine k_cb ?_ | with_reducible refine k_ck ?_
  | with_reducible refine k_par ?_ | with_reducible refine k_par1 ?_ | with_reducible refine k_tr ?_ | with_reducible refine k_rI0 ?_ | with_reducible refine k_rU ?_
  | with_reducible refine k_gN ?_ | with_reducible refine k_gS ?_ | with_reducible refine k_gNil ?_ | with_reducible refine k_gCons ?_ | with_reducible refine k_bm0 ?_ | with_reducible refine k_bm ?_
  | with_reducible refine k_for ?_ | with_reducible refine k_iL ?_ | with_reducible refine k_iT ?_ | with_reducible refine k_iR1 ?_ | ((with_reducible refine k_iR1i ?e ?_); (case e => first | decide | exact ⟨by omega, by omega⟩))
  | with_reducible refine k_max ?_ | with_reducible refine k_isB ?_ | with_reducible refine k_sl ?_ | with_reducible refine k_noP ?_ | with_reducible refine k_part ?_ | with_reducible refine k_partI ?_ | with_reducible refine k_revL ?_
  | ((with_reducible refine' k_ixqT ?e ?f ?_); (case e => walk_at "sq"); (case f => first | exact rfl | exact atI_head))
  | ((with_reducible refine' k_ixqL ?e ?f ?_); (case e => walk_at "sq"); (case f => first | exact rfl | exact atI_head))
  | ((with_reducible refine' k_lenL ?e ?_); (case e => walk_at "sq"))
  | ((with_reducible refine' k_lenT ?e ?_); (case e => walk_at "sq"))
  | ((with_reducible refine' k_ixL ?e ?f ?_); (case e => walk_at "sq"); (case f => first | exact rfl | exact atI_head))
  | ((with_reducible refine' k_ixT ?e ?f ?_); (case e => walk_at "sq"); (case f => first | exact rfl | exact atI_head))
  | ((with_reducible refine k_eq ?e ?_); (case e => exact rfl)) | ((with_reducible refine k_ne ?e ?_); (case e => exact rfl))
  | ((with_reducible refine k_rI ?e ?_); (case e => first | assumption | omega | decide | exact ⟨by omega, by omega⟩ | exact .inl ⟨by omega, by omega⟩ | exact .inr ⟨by omega, by omega⟩)))
local macro_rules | `(tactic| walk_at "rd") => `(tactic| repeat walk_at "r1")
local macro_rules | `(tactic| walk_at "r2") => `(tactic| first
  | walk_at "r1"
  | with_reducible refine k_ifTt ?_ | with_reducible refine k_ifFf ?_ | with_reducible refine k_ifNt ?_ | with_reducible refine k_ifNf ?_
  | with_reducible refine k_makeR ?_ | with_reducible refine k_tJ ?_ | with_reducible refine k_tJc ?_ | with_reducible refine k_tJn ?_ | with_reducible refine k_fmt ?_ | with_reducible refine k_lc ?_ | with_reducible refine k_din ?_ | with_reducible refine k_fld ?_ | with_reducible refine k_dget ?_
  | with_reducible refine k_dput ?_
  | with_reducible refine k_isNv ?_
  | with_reducible refine k_notNv ?_
  | with_reducible refine k_str ?_
  | with_reducible refine k_enumT ?_
  | with_reducible refine k_zipA ?_
  | with_reducible refine k_chain ?_
  | ((with_reducible refine' k_dgS ?e dkv_cells ?_); (case e => walk_at "lk"))
  | ((with_reducible refine' k_dgS ?e dkv_mixed ?_); (case e => walk_at "lk"))
  | ((with_reducible refine' k_dgS ?e dkv_turn ?_); (case e => walk_at "lk")))
local macro_rules | `(tactic| walk_at "rr") => `(tactic| repeat walk_at "r2")
local macro_rules | `(tactic| walk_at "r2") => `(tactic| first
  | with_reducible refine k_lc2 ?_ | with_reducible refine k_scT ?_ | with_reducible refine k_ixO ?_ | with_reducible refine k_star ?_)
local macro_rules | `(tactic| walk_at "r2") => `(tactic| first | with_reducible refine k_fldE ?_ | with_reducible refine k_prop ?_)
-- steps end
/-- t + u, tuples -/
def rCatTT : R2 := fun x y H Q => ∃ (a b : Addr) (xs ys : List V), x = .ref a ∧ y = .ref b ∧ H a = some (.tup xs) ∧ H b = some (.tup ys) ∧ ys ≠ [] ∧ xs.length + ys.length ≤ sizeLine ∧ ∀ r H', Same H H' → H' r = some (.tup (xs ++ ys)) → Q (.ref r) H'
theorem op_catTT {X : Cx} : OpR X (binaryOp .Add) rCatTT := by
  intro pins s σ H x y v u Q I rx ry h
  obtain ⟨a, b, xs, ys, rfl, rfl, ha, hb, hy, hz, k⟩ := h
  by_cases e : xs = []
  · obtain rfl : v = Value.ref a := rx
    obtain rfl : u = Value.ref b := ry
    subst e
    obtain ⟨i1, r1, p1, _⟩ := I.tuple (SqT.of ha)
    obtain ⟨i2, r2, p2, _⟩ := I.tuple (SqT.of hb)
    have e1 : i1 = [] := by
      have := r1.length
      exact List.length_eq_zero_iff.mp this.symm
    subst e1
    exact cat_tup0 p1 p2 ⟨.ref b, H, I, rfl, k b H (Same.refl _) hb⟩
  · exact op_catT pins s σ H _ _ v u Q I rx ry ⟨a, b, xs, ys, rfl, rfl, SqT.of ha, SqT.of hb, e, hz, fun z => absurd z hy, fun _ p hp => k p _ (Same.upd hp) upd_same⟩
/-! ### the statements of a turn -/
def vars (p : Pt) (u : Use) : List Pt := [p, { p with conds := [] }, { p with probes := [] }, { p with told := [] }, { p with told := p.told ++ [u] }]
theorem right_fit {ts : List AT} {p : Pt} (len : ts.length = 4) (nd : (namesOf ts).Nodup) (ks : ∀ i x, 2 ≤ i → ts[i]? = some x → x.2.ks = []) (r : RightP ts 5 p) : Fit ts p := by
  obtain ⟨t, ht, etb, sok⟩ := r.tb
  refine ⟨r.kind, ⟨t, List.mem_of_getElem? ht, etb, sok⟩, r.r1, r.r2, r.al, r.an, fun x hx => ?_, r.hd, r.cl, r.cs, r.pl, r.pn, fun q hq => ?_, Nat.le_trans r.tl (by decide), r.td⟩
  · obtain ⟨y, hy, hn⟩ := r.rt x hx
    exact ⟨y, List.mem_of_mem_take hy, hn⟩
  · obtain ⟨x, hx, i⟩ := r.ps q hq
    refine ⟨x, List.mem_of_mem_drop hx, i, ?_, fun m => ?_⟩
    · obtain ⟨j, hj⟩ := List.mem_iff_getElem?.mp hx
      rw [List.getElem?_drop] at hj
      exact ks _ x (by omega) hj
    · rw [i.tb] at m
      obtain ⟨t0, t1, t2, t3, rfl⟩ : ∃ t0 t1 t2 t3, ts = [t0, t1, t2, t3] := by
        match ts, len with
        | [a, b, c, d], _ => exact ⟨a, b, c, d, rfl⟩
      have et : t0 = t := Option.some.inj ht
      subst et
      have xin : x = t2 ∨ x = t3 := by simpa using hx
      have nd2 : (([t0.2.nm, t1.2.nm, t2.2.nm, t3.2.nm] : List Str)).Nodup := nd
      simp only [List.nodup_cons, List.mem_cons, List.not_mem_nil, or_false, not_or] at nd2
      have low : ∃ y, (y = t0 ∨ y = t1) ∧ x.2.nm = y.2.nm := by
        rcases List.mem_cons.mp m with e | e
        · exact ⟨t0, .inl rfl, e.trans etb⟩
        · obtain ⟨z, hz, e⟩ := List.mem_map.mp e
          obtain ⟨y, hy, hn⟩ := r.rt z hz
          exact ⟨y, by simpa using hy, by rw [← e, hn]⟩
      obtain ⟨y, hy, e⟩ := low
      rcases xin with rfl | rfl <;> rcases hy with rfl | rfl
      · exact nd2.1.2.1 e.symm
      · exact nd2.2.1.1 e.symm
      · exact nd2.1.2.2 e.symm
      · exact nd2.2.1.2 e.symm
theorem vars_fit {ts : List AT} {p : Pt} {u : Use} (f : Fit ts p) (l : p.told.length ≤ 3) (hu : u ∈ usesOf ts p.refs) : ∀ v ∈ vars p u, Fit ts v := by
  intro v hv
  simp only [vars, List.mem_cons, List.not_mem_nil, or_false] at hv
  rcases hv with rfl | rfl | rfl | rfl | rfl
  · exact f
  · exact ⟨f.kind, f.tb, f.r1, f.r2, f.al, f.an, f.rt, f.hd, Nat.zero_le _, (fun c hc => by cases hc), f.pl, f.pn, f.ps, f.tl, f.td⟩
  · exact ⟨f.kind, f.tb, f.r1, f.r2, f.al, f.an, f.rt, f.hd, f.cl, f.cs, Nat.zero_le _, List.nodup_nil, (fun c hc => by cases hc), f.tl, f.td⟩
  · exact ⟨f.kind, f.tb, f.r1, f.r2, f.al, f.an, f.rt, f.hd, f.cl, f.cs, f.pl, f.pn, f.ps, Nat.zero_le _, (fun c hc => by cases hc)⟩
  · refine ⟨f.kind, f.tb, f.r1, f.r2, f.al, f.an, f.rt, f.hd, f.cl, f.cs, f.pl, f.pn, f.ps, ?_, fun w hw => ?_⟩
    · show (p.told ++ [u]).length ≤ 4
      rw [List.length_append]
      simp
      omega
    · rcases List.mem_append.mp hw with h | h
      · exact f.td w h
      · obtain rfl := List.mem_singleton.mp h
        exact hu
def tSome : TE := fun σ H Q => ∃ (a m : Addr) (pt : Pt) (u : Use) (s0 s1 s2 s3 s4 s6 s7 s8 s10 : Option V), σ = [s0, s1, s2, s3, s4, some (.ref m), s6, s7, s8, some (.ref a), s10] ∧ DT H (.ref a) pt.d ∧ DT H (.ref m) (useD u) ∧ pt.told.length ≤ 3 ∧
  ∀ (L : Addr) (vs : List V) (H' : Hp), Same H H' → H L = none → H' L = some (.lst vs) → DTs H' vs ((vars pt u).map Pt.d) → Q (.ref L) H'
/-! ### what is kept while the deck and a list are written -/
def Mk (d c L : Addr) : Addr → Prop := fun a => Dk d c a ∨ a = L
theorem Mk.le {d c L a : Addr} (h : ¬ Mk d c L a) : ¬ Dk d c a := fun z => h (.inl z)
theorem ext_mk {d c L : Addr} {H H' : Hp} (x : Ext (Dk d c) H H') : Ext (Mk d c L) H H' := ⟨x.1, fun a o n e => x.2 a o (Mk.le n) e⟩
theorem SchAt.extM {C : Addr} {H H' : Hp} {p d c L : Addr} {b : Int} {xs : List V} {ts zs : List AT} (S : SchAt C H p ts zs) (D : DeckE d c b H) (hL : H L = some (.lst xs)) (x : Ext (Mk d c L) H H') : SchAt C H' p ts zs := by
  obtain ⟨dx, dd, t, h1, h2, h3⟩ := S.ex
  obtain ⟨ns, m, n, ne, e1, e2, _⟩ := D
  have np : ¬ Mk d c L p := by
    rintro ((rfl | rfl) | rfl)
    · rw [e1] at h1; cases h1
    · rw [e2] at h1; cases h1
    · rw [hL] at h1; cases h1
  have nd : ¬ Mk d c L dd := by
    rintro ((rfl | rfl) | rfl)
    · rw [e1] at h2
      have e3 : dkw c m n = kvsOf ts := HO.dK.inj (Option.some.inj h2)
      have e4 : (dkw c m n)[1]? = (kvsOf ts)[1]? := by rw [e3]
      unfold kvsOf at e4
      rw [List.getElem?_map] at e4
      have e5 : (dkw c m n)[1]? = some ((Sum.inr (Str.ofString "mixed") : Key), V.int m) := rfl
      rw [e5] at e4
      match ts[1]?, e4 with
      | some y, e4 => cases (Prod.mk.inj (Option.some.inj e4)).2
    · rw [e2] at h2; cases h2
    · rw [hL] at h2; cases h2
  exact ⟨S.perm, S.asc, fun y hy => ⟨(S.ok y hy).1.ext x, (S.ok y hy).2⟩, S.nd, S.len, dx, dd, t, x.2 _ _ np h1, x.2 _ _ nd h2, x.1 _ _ h3⟩
theorem StmtAt.extM {S C : Addr} {H H' : Hp} {x0 p q d c L : Addr} {b : Int} {xs : List V} {ts zs : List AT} {pt : Pt} (A : StmtAt S C H x0 p q ts zs pt) (D : DeckE d c b H) (hL : H L = some (.lst xs)) (x : Ext (Mk d c L) H H') : StmtAt S C H' x0 p q ts zs pt := by
  obtain ⟨dx, h1⟩ := A.ex
  have np : ¬ Mk d c L x0 := by
    obtain ⟨ns, m, n, ne, e1, e2, _⟩ := D
    rintro ((rfl | rfl) | rfl)
    · rw [e1] at h1; cases h1
    · rw [e2] at h1; cases h1
    · rw [hL] at h1; cases h1
  exact ⟨A.sch.extM D hL x, A.dat.keep x.1, dx, x.2 _ _ np h1⟩
/-- a statement kept with its parts -/
def KpAt (S C : Addr) (H : Hp) (v : V) : Prop := ∃ (g x a p q : Addr) (ts zs : List AT) (pt : Pt), v = .ref g ∧ H g = some (.tup [.ref x, .ref a]) ∧ StmtAt S C H x p q ts zs pt ∧ DT H (.ref a) pt.d ∧ Fit ts pt
theorem KpAt.extM {S C : Addr} {H H' : Hp} {d c L : Addr} {b : Int} {xs : List V} {v : V} (A : KpAt S C H v) (D : DeckE d c b H) (hL : H L = some (.lst xs)) (x : Ext (Mk d c L) H H') : KpAt S C H' v := by
  obtain ⟨g, x0, a, p, q, ts, zs, pt, rfl, hg, st, da, fit⟩ := A
  exact ⟨g, x0, a, p, q, ts, zs, pt, rfl, x.1 _ _ hg, st.extM D hL x, da.keep x.1, fit⟩
theorem KpAt.same {S C : Addr} {H H' : Hp} {v : V} (A : KpAt S C H v) (s : Same H H') : KpAt S C H' v := by
  obtain ⟨g, x0, a, p, q, ts, zs, pt, rfl, hg, st, da, fit⟩ := A
  exact ⟨g, x0, a, p, q, ts, zs, pt, rfl, s _ _ hg, st.same s, da.keep (Tups.same s), fit⟩
section
variable {P : Program} {w : World} {K : PySem.W.Frag} {mg : Str → Option Value} {g0 : Heap} {C S : Addr}
abbrev s_law : Stmt := top 85
theorem sc_law : FnScope ["_law_script", "_law_turn", "_law_deck_here", "_law_kept", "_law_tables_here", "_law_more", "_law_some", "_law_one", "_law_catalog", "_law_it", "_law_made_here"] ["_law_script"] (defScope s_law) :=
  ⟨rfl, rfl, rfl, by decide +kernel, rfl, by decide +kernel, by decide +kernel⟩
def spLaw (K : PySem.W.Frag) : Sp := fun vs H Q _ => ∃ (a : Addr) (xs : List Int), vs = [.ref a] ∧ SqL K H a (xs.map V.int) ∧ xs.length ≤ 63 ∧ ∀ H', Q (.bl true) H'
theorem ok_law {f : Addr} {fd : FuncData} (F : Fun K "law" "law" s_law f fd) (z_range : mg "range" = none)
    (C_deck : Cal P w K mg g0 "_law_deck" 1 ["_law_script"] (spDeck K)) (C_pick : Cal P w K mg g0 "_law_pick" 2 ["_law_deck_here", "_law_some"] spPick) (C_tables : Cal P w K mg g0 "_law_tables" 4 ["_law_deck_here"] spTablesL) (C_uses : Cal P w K mg g0 "_law_uses" 1 ["_law_tables_here", "_law_pairs"] spUses)
    (C_parts : Cal P w K mg g0 "_law_parts" 4 ["_law_deck_here", "_law_tables_here", "_law_most"] spParts) (C_schema : Cal P w K mg g0 "_law_schema" 6 ["_law_tables_here"] (spSchemaL C)) (C_made : Cal P w K mg g0 "_law_made" 9 ["_law_catalog", "_law_it"] (spMadeL S C))
    (C_right : Cal P w K mg g0 "_law_right" 5 ["_law_made_here", "_law_it"] (spRightL S C)) :
    GOk P w K mg g0 CX0 10 f fd ["_law_script"] (spLaw K) := by
  have nd := sc_law.nd
  refine okG F sc_law (fun vs H Q E h => ?_) (fun cdv A up s0 H vs Q E qt hr h => ?_)
  · obtain ⟨a, xs, rfl, _⟩ := h
    rfl
  · obtain ⟨a, xs, rfl, hs, lx, k⟩ := h
    refine ⟨_, (pss_cons (ps_par (i := 2) (j := 3) (by rfl) nd rfl rfl (by decide) rfl rfl (pa_cons (pe_c C_deck qt (hr.mono (by decide)) (pa_cons (pv 0) pa_nil)) (pa_cons (pe_lst pa_nil) pa_nil)) (by rfl))
        (pss_cons (ps_for PassesOwn.never rfl (pi_range1 (by rfl) z_range (pa_cons pe_int pa_nil)) (pg_name (i := 1) nd rfl (Or.inl rfl)) (pss_cons (ps_set (i := 4) nd rfl (Or.inl rfl) (pe_c C_tables qt (hr.mono (by decide)) (pa_cons (pv 2) pa_nil)))
        (pss_cons (ps_par (i := 8) (j := 9) (by rfl) nd rfl rfl (by decide) rfl rfl (pa_cons (pe_c C_schema qt (hr.mono (by decide)) (pa_cons (pv 4) pa_nil)) (pa_cons (pe_c C_parts qt (hr.mono (by decide)) (pa_cons (pv 2) (pa_cons (pv 4) (pa_cons pe_int pa_nil)))) pa_nil)) (by rfl))
        (pss_cons (ps_set (i := 5) nd rfl (Or.inl rfl) (pe_c C_pick qt (hr.mono (by decide)) (pa_cons (pv 2) (pa_cons (pe_c C_uses qt (hr.mono (by decide)) (pa_cons (pv 4) (pa_cons (pe_ix ix_seq (pv 9) pe_int (fun _ _ => rfl)) pa_nil))) pa_nil))))
        (pss_cons (ps_set (i := 6) nd rfl (Or.inl rfl) (PE_imp (pe_lst (pa_cons (pv 9) (pa_cons (pe_op op_catT (pe_op op_catT (pe_slice sl_tup (pv 9) po_none (po_some pe_int)) (pe_tup (pa_cons (pe_tup pa_nil) pa_nil))) (pe_slice sl_tup (pv 9) (po_some pe_int) po_none)) (pa_cons (pe_op op_catT (pe_op op_catT (pe_slice sl_tup (pv 9) po_none (po_some pe_int)) (pe_tup (pa_cons (pe_tup pa_nil) pa_nil))) (pe_slice sl_tup (pv 9) (po_some pe_int) po_none)) (pa_cons (pe_op op_catT (pe_slice sl_tup (pv 9) po_none (po_some pe_int)) (pe_tup (pa_cons (pe_tup pa_nil) pa_nil))) (pa_cons (pe_op op_catT (pe_slice sl_tup (pv 9) po_none (po_some pe_int)) (pe_tup (pa_cons (pe_op op_catTT (pe_ix ix_seq (pv 9) pe_int (fun _ _ => rfl)) (pe_tup (pa_cons (pv 5) pa_nil))) pa_nil))) pa_nil)))))) (t' := tSome) (fun σ H Q h => ?tSome)))
        (pss_one (ps_for PassesOwn.never rfl (pi_list (pv 6)) (pg_name (i := 7) nd rfl (Or.inl rfl)) (pss_cons (ps_set (i := 10) nd rfl (Or.inl rfl) (pe_c C_made qt (hr.mono (by decide)) (pa_cons (pv 8) (pa_cons (pv 7) pa_nil))))
        (pss_cons (ps_if (pt_not (pt_val (pe_c C_right qt (hr.mono (by decide)) (pa_cons (pv 10) (pa_cons (pv 7) pa_nil))))) (pss_one (ps_ret pe_bl)) pss_nil)
        (pss_one (ps_expr (pe_bm PySem.F.plainAttrs_list PySem.F.slot_list_append PySem.F.type_list_append mt_append (pv 3) (pa_cons (pe_tup (pa_cons (pv 10) (pa_cons (pv 7) pa_nil))) pa_nil)))))))))))))
        (pss_one (ps_ret (pe_cmpR (op_eqD hr.units) (pe_lc (own := [("_law_made_here", 10), ("_law_one", 7)]) (g := (gTup K 2 (gCons (gName 10) (gCons (gName 7) gNil)))) (tt := (tNot (tB (tCall _ [] E0 (tCons (tVar 10) (tCons (tVar 7) tNil)))))) (te := (tVar 7)) (by rfl) nd (pi_list (pv 3)) (blkOk_by (own := [("_law_made_here", 10), ("_law_one", 7)]) (N := ["_law_script", "_law_turn", "_law_deck_here", "_law_kept", "_law_tables_here", "_law_more", "_law_some", "_law_one", "_law_catalog", "_law_it", "_law_made_here"]) (sc := defScope s_law) (by decide +kernel)) (fun _ _ _ _ _ => by exact (pg_tup rfl (pgs_cons (pg_name (i := 10) nd rfl (Or.inl rfl)) (pgs_cons (pg_name (i := 7) nd rfl (Or.inl rfl)) pgs_nil)))) (fun _ _ _ _ _ => by exact (pts_one (pt_not (pt_val (pe_c C_right qt (hr.mono (by decide)) (pa_cons (pv 10) (pa_cons (pv 7) pa_nil))))))) (fun _ _ _ _ _ => by exact (pv 7))) (pe_lst pa_nil) (nomark _)))))), ?_⟩
    case tSome =>
      obtain ⟨a, m, pt, u, s0, s1, s2, s3, s4, s6, s7, s8, s10, rfl, hpt, dm, lt, QQ⟩ := h
      obtain ⟨a', r, c, q, s, t, e, ha, dr, dc, dq, ds, dt⟩ := pt_at hpt
      cases e
      obtain ⟨_, tv, e, ht, dtv⟩ := dt.unT
      cases e
      have ltv : tv.length = pt.told.length := by rw [dtv.len, List.length_map]
      walk_at "rr"
      refine ⟨a, _, rfl, SqT.of ha, by simp [HT.sIx], fun p1 hp1 => ?_⟩
      rw [show cutV ([.str pt.kind, .str pt.tb, .ref r, .ref c, .ref q, .ref s, .ref t] : List V) none (some 3) = ([.str pt.kind, .str pt.tb, .ref r] : List V) from rfl]
      generalize hH1 : upd H p1 _ = H1
      have s1 : Same H H1 := hH1 ▸ Same.upd hp1
      have gp1 : H1 p1 = some (.tup [.str pt.kind, .str pt.tb, .ref r]) := hH1 ▸ upd_same
      clear hH1
      have ha := s1 _ _ ha
      have ht := s1 _ _ ht
      have S1 := s1
      walk_at "rr"
      refine ⟨k_sz rfl, fun p2 hp2 => ?_⟩
      generalize hH2 : upd H1 p2 _ = H2
      have s2 : Same H1 H2 := hH2 ▸ Same.upd hp2
      have gp2 : H2 p2 = some (.tup []) := hH2 ▸ upd_same
      clear hH2
      have ha := s2 _ _ ha
      have ht := s2 _ _ ht
      have gp1 := s2 _ _ gp1
      have S2 := S1.trans s2
      walk_at "rr"
      refine ⟨k_sz rfl, fun p3 hp3 => ?_⟩
      generalize hH3 : upd H2 p3 _ = H3
      have s3 : Same H2 H3 := hH3 ▸ Same.upd hp3
      have gp3 : H3 p3 = some (.tup [.ref p2]) := hH3 ▸ upd_same
      clear hH3
      have ha := s3 _ _ ha
      have ht := s3 _ _ ht
      have gp1 := s3 _ _ gp1
      have gp2 := s3 _ _ gp2
      have S3 := S2.trans s3
      walk_at "rr"
      refine ⟨p1, p3, [.str pt.kind, .str pt.tb, .ref r], [.ref p2], rfl, rfl, SqT.of gp1, SqT.of gp3, by simp, k_sz rfl, fun z => absurd z (by simp), fun _ p4 hp4 => ?_⟩
      generalize hH4 : upd H3 p4 _ = H4
      have s4 : Same H3 H4 := hH4 ▸ Same.upd hp4
      have gp4 : H4 p4 = some (.tup [.str pt.kind, .str pt.tb, .ref r, .ref p2]) := hH4 ▸ upd_same
      clear hH4
      have ha := s4 _ _ ha
      have ht := s4 _ _ ht
      have gp1 := s4 _ _ gp1
      have gp2 := s4 _ _ gp2
      have gp3 := s4 _ _ gp3
      have S4 := S3.trans s4
      walk_at "rr"
      refine ⟨a, _, rfl, SqT.of ha, by simp [HT.sIx], fun p5 hp5 => ?_⟩
      rw [show cutV ([.str pt.kind, .str pt.tb, .ref r, .ref c, .ref q, .ref s, .ref t] : List V) (some 4) none = ([.ref q, .ref s, .ref t] : List V) from rfl]
      generalize hH5 : upd H4 p5 _ = H5
      have s5 : Same H4 H5 := hH5 ▸ Same.upd hp5
      have gp5 : H5 p5 = some (.tup [.ref q, .ref s, .ref t]) := hH5 ▸ upd_same
      clear hH5
      have ha := s5 _ _ ha
      have ht := s5 _ _ ht
      have gp1 := s5 _ _ gp1
      have gp2 := s5 _ _ gp2
      have gp3 := s5 _ _ gp3
      have gp4 := s5 _ _ gp4
      have S5 := S4.trans s5
      walk_at "rr"
      refine ⟨p4, p5, [.str pt.kind, .str pt.tb, .ref r, .ref p2], [.ref q, .ref s, .ref t], rfl, rfl, SqT.of gp4, SqT.of gp5, by simp, k_sz rfl, fun z => absurd z (by simp), fun _ p6 hp6 => ?_⟩
      generalize hH6 : upd H5 p6 _ = H6
      have s6 : Same H5 H6 := hH6 ▸ Same.upd hp6
      have gp6 : H6 p6 = some (.tup [.str pt.kind, .str pt.tb, .ref r, .ref p2, .ref q, .ref s, .ref t]) := hH6 ▸ upd_same
      clear hH6
      have ha := s6 _ _ ha
      have ht := s6 _ _ ht
      have gp1 := s6 _ _ gp1
      have gp2 := s6 _ _ gp2
      have gp3 := s6 _ _ gp3
      have gp4 := s6 _ _ gp4
      have gp5 := s6 _ _ gp5
      have S6 := S5.trans s6
      walk_at "rr"
      refine ⟨a, _, rfl, SqT.of ha, by simp [HT.sIx], fun p7 hp7 => ?_⟩
      rw [show cutV ([.str pt.kind, .str pt.tb, .ref r, .ref c, .ref q, .ref s, .ref t] : List V) none (some 4) = ([.str pt.kind, .str pt.tb, .ref r, .ref c] : List V) from rfl]
      generalize hH7 : upd H6 p7 _ = H7
      have s7 : Same H6 H7 := hH7 ▸ Same.upd hp7
      have gp7 : H7 p7 = some (.tup [.str pt.kind, .str pt.tb, .ref r, .ref c]) := hH7 ▸ upd_same
      clear hH7
      have ha := s7 _ _ ha
      have ht := s7 _ _ ht
      have gp1 := s7 _ _ gp1
      have gp2 := s7 _ _ gp2
      have gp3 := s7 _ _ gp3
      have gp4 := s7 _ _ gp4
      have gp5 := s7 _ _ gp5
      have gp6 := s7 _ _ gp6
      have S7 := S6.trans s7
      walk_at "rr"
      refine ⟨k_sz rfl, fun p8 hp8 => ?_⟩
      generalize hH8 : upd H7 p8 _ = H8
      have s8 : Same H7 H8 := hH8 ▸ Same.upd hp8
      have gp8 : H8 p8 = some (.tup []) := hH8 ▸ upd_same
      clear hH8
      have ha := s8 _ _ ha
      have ht := s8 _ _ ht
      have gp1 := s8 _ _ gp1
      have gp2 := s8 _ _ gp2
      have gp3 := s8 _ _ gp3
      have gp4 := s8 _ _ gp4
      have gp5 := s8 _ _ gp5
      have gp6 := s8 _ _ gp6
      have gp7 := s8 _ _ gp7
      have S8 := S7.trans s8
      walk_at "rr"
      refine ⟨k_sz rfl, fun p9 hp9 => ?_⟩
      generalize hH9 : upd H8 p9 _ = H9
      have s9 : Same H8 H9 := hH9 ▸ Same.upd hp9
      have gp9 : H9 p9 = some (.tup [.ref p8]) := hH9 ▸ upd_same
      clear hH9
      have ha := s9 _ _ ha
      have ht := s9 _ _ ht
      have gp1 := s9 _ _ gp1
      have gp2 := s9 _ _ gp2
      have gp3 := s9 _ _ gp3
      have gp4 := s9 _ _ gp4
      have gp5 := s9 _ _ gp5
      have gp6 := s9 _ _ gp6
      have gp7 := s9 _ _ gp7
      have gp8 := s9 _ _ gp8
      have S9 := S8.trans s9
      walk_at "rr"
      refine ⟨p7, p9, [.str pt.kind, .str pt.tb, .ref r, .ref c], [.ref p8], rfl, rfl, SqT.of gp7, SqT.of gp9, by simp, k_sz rfl, fun z => absurd z (by simp), fun _ p10 hp10 => ?_⟩
      generalize hH10 : upd H9 p10 _ = H10
      have s10 : Same H9 H10 := hH10 ▸ Same.upd hp10
      have gp10 : H10 p10 = some (.tup [.str pt.kind, .str pt.tb, .ref r, .ref c, .ref p8]) := hH10 ▸ upd_same
      clear hH10
      have ha := s10 _ _ ha
      have ht := s10 _ _ ht
      have gp1 := s10 _ _ gp1
      have gp2 := s10 _ _ gp2
      have gp3 := s10 _ _ gp3
      have gp4 := s10 _ _ gp4
      have gp5 := s10 _ _ gp5
      have gp6 := s10 _ _ gp6
      have gp7 := s10 _ _ gp7
      have gp8 := s10 _ _ gp8
      have gp9 := s10 _ _ gp9
      have S10 := S9.trans s10
      walk_at "rr"
      refine ⟨a, _, rfl, SqT.of ha, by simp [HT.sIx], fun p11 hp11 => ?_⟩
      rw [show cutV ([.str pt.kind, .str pt.tb, .ref r, .ref c, .ref q, .ref s, .ref t] : List V) (some 5) none = ([.ref s, .ref t] : List V) from rfl]
      generalize hH11 : upd H10 p11 _ = H11
      have s11 : Same H10 H11 := hH11 ▸ Same.upd hp11
      have gp11 : H11 p11 = some (.tup [.ref s, .ref t]) := hH11 ▸ upd_same
      clear hH11
      have ha := s11 _ _ ha
      have ht := s11 _ _ ht
      have gp1 := s11 _ _ gp1
      have gp2 := s11 _ _ gp2
      have gp3 := s11 _ _ gp3
      have gp4 := s11 _ _ gp4
      have gp5 := s11 _ _ gp5
      have gp6 := s11 _ _ gp6
      have gp7 := s11 _ _ gp7
      have gp8 := s11 _ _ gp8
      have gp9 := s11 _ _ gp9
      have gp10 := s11 _ _ gp10
      have S11 := S10.trans s11
      walk_at "rr"
      refine ⟨p10, p11, [.str pt.kind, .str pt.tb, .ref r, .ref c, .ref p8], [.ref s, .ref t], rfl, rfl, SqT.of gp10, SqT.of gp11, by simp, k_sz rfl, fun z => absurd z (by simp), fun _ p12 hp12 => ?_⟩
      generalize hH12 : upd H11 p12 _ = H12
      have s12 : Same H11 H12 := hH12 ▸ Same.upd hp12
      have gp12 : H12 p12 = some (.tup [.str pt.kind, .str pt.tb, .ref r, .ref c, .ref p8, .ref s, .ref t]) := hH12 ▸ upd_same
      clear hH12
      have ha := s12 _ _ ha
      have ht := s12 _ _ ht
      have gp1 := s12 _ _ gp1
      have gp2 := s12 _ _ gp2
      have gp3 := s12 _ _ gp3
      have gp4 := s12 _ _ gp4
      have gp5 := s12 _ _ gp5
      have gp6 := s12 _ _ gp6
      have gp7 := s12 _ _ gp7
      have gp8 := s12 _ _ gp8
      have gp9 := s12 _ _ gp9
      have gp10 := s12 _ _ gp10
      have gp11 := s12 _ _ gp11
      have S12 := S11.trans s12
      walk_at "rr"
      refine ⟨a, _, rfl, SqT.of ha, by simp [HT.sIx], fun p13 hp13 => ?_⟩
      rw [show cutV ([.str pt.kind, .str pt.tb, .ref r, .ref c, .ref q, .ref s, .ref t] : List V) none (some 6) = ([.str pt.kind, .str pt.tb, .ref r, .ref c, .ref q, .ref s] : List V) from rfl]
      generalize hH13 : upd H12 p13 _ = H13
      have s13 : Same H12 H13 := hH13 ▸ Same.upd hp13
      have gp13 : H13 p13 = some (.tup [.str pt.kind, .str pt.tb, .ref r, .ref c, .ref q, .ref s]) := hH13 ▸ upd_same
      clear hH13
      have ha := s13 _ _ ha
      have ht := s13 _ _ ht
      have gp1 := s13 _ _ gp1
      have gp2 := s13 _ _ gp2
      have gp3 := s13 _ _ gp3
      have gp4 := s13 _ _ gp4
      have gp5 := s13 _ _ gp5
      have gp6 := s13 _ _ gp6
      have gp7 := s13 _ _ gp7
      have gp8 := s13 _ _ gp8
      have gp9 := s13 _ _ gp9
      have gp10 := s13 _ _ gp10
      have gp11 := s13 _ _ gp11
      have gp12 := s13 _ _ gp12
      have S13 := S12.trans s13
      walk_at "rr"
      refine ⟨k_sz rfl, fun p14 hp14 => ?_⟩
      generalize hH14 : upd H13 p14 _ = H14
      have s14 : Same H13 H14 := hH14 ▸ Same.upd hp14
      have gp14 : H14 p14 = some (.tup []) := hH14 ▸ upd_same
      clear hH14
      have ha := s14 _ _ ha
      have ht := s14 _ _ ht
      have gp1 := s14 _ _ gp1
      have gp2 := s14 _ _ gp2
      have gp3 := s14 _ _ gp3
      have gp4 := s14 _ _ gp4
      have gp5 := s14 _ _ gp5
      have gp6 := s14 _ _ gp6
      have gp7 := s14 _ _ gp7
      have gp8 := s14 _ _ gp8
      have gp9 := s14 _ _ gp9
      have gp10 := s14 _ _ gp10
      have gp11 := s14 _ _ gp11
      have gp12 := s14 _ _ gp12
      have gp13 := s14 _ _ gp13
      have S14 := S13.trans s14
      walk_at "rr"
      refine ⟨k_sz rfl, fun p15 hp15 => ?_⟩
      generalize hH15 : upd H14 p15 _ = H15
      have s15 : Same H14 H15 := hH15 ▸ Same.upd hp15
      have gp15 : H15 p15 = some (.tup [.ref p14]) := hH15 ▸ upd_same
      clear hH15
      have ha := s15 _ _ ha
      have ht := s15 _ _ ht
      have gp1 := s15 _ _ gp1
      have gp2 := s15 _ _ gp2
      have gp3 := s15 _ _ gp3
      have gp4 := s15 _ _ gp4
      have gp5 := s15 _ _ gp5
      have gp6 := s15 _ _ gp6
      have gp7 := s15 _ _ gp7
      have gp8 := s15 _ _ gp8
      have gp9 := s15 _ _ gp9
      have gp10 := s15 _ _ gp10
      have gp11 := s15 _ _ gp11
      have gp12 := s15 _ _ gp12
      have gp13 := s15 _ _ gp13
      have gp14 := s15 _ _ gp14
      have S15 := S14.trans s15
      walk_at "rr"
      refine ⟨p13, p15, [.str pt.kind, .str pt.tb, .ref r, .ref c, .ref q, .ref s], [.ref p14], rfl, rfl, SqT.of gp13, SqT.of gp15, by simp, k_sz rfl, fun z => absurd z (by simp), fun _ p16 hp16 => ?_⟩
      generalize hH16 : upd H15 p16 _ = H16
      have s16 : Same H15 H16 := hH16 ▸ Same.upd hp16
      have gp16 : H16 p16 = some (.tup [.str pt.kind, .str pt.tb, .ref r, .ref c, .ref q, .ref s, .ref p14]) := hH16 ▸ upd_same
      clear hH16
      have ha := s16 _ _ ha
      have ht := s16 _ _ ht
      have gp1 := s16 _ _ gp1
      have gp2 := s16 _ _ gp2
      have gp3 := s16 _ _ gp3
      have gp4 := s16 _ _ gp4
      have gp5 := s16 _ _ gp5
      have gp6 := s16 _ _ gp6
      have gp7 := s16 _ _ gp7
      have gp8 := s16 _ _ gp8
      have gp9 := s16 _ _ gp9
      have gp10 := s16 _ _ gp10
      have gp11 := s16 _ _ gp11
      have gp12 := s16 _ _ gp12
      have gp13 := s16 _ _ gp13
      have gp14 := s16 _ _ gp14
      have gp15 := s16 _ _ gp15
      have S16 := S15.trans s16
      walk_at "rr"
      refine ⟨a, _, rfl, SqT.of ha, by simp [HT.sIx], fun p17 hp17 => ?_⟩
      rw [show cutV ([.str pt.kind, .str pt.tb, .ref r, .ref c, .ref q, .ref s, .ref t] : List V) none (some 6) = ([.str pt.kind, .str pt.tb, .ref r, .ref c, .ref q, .ref s] : List V) from rfl]
      generalize hH17 : upd H16 p17 _ = H17
      have s17 : Same H16 H17 := hH17 ▸ Same.upd hp17
      have gp17 : H17 p17 = some (.tup [.str pt.kind, .str pt.tb, .ref r, .ref c, .ref q, .ref s]) := hH17 ▸ upd_same
      clear hH17
      have ha := s17 _ _ ha
      have ht := s17 _ _ ht
      have gp1 := s17 _ _ gp1
      have gp2 := s17 _ _ gp2
      have gp3 := s17 _ _ gp3
      have gp4 := s17 _ _ gp4
      have gp5 := s17 _ _ gp5
      have gp6 := s17 _ _ gp6
      have gp7 := s17 _ _ gp7
      have gp8 := s17 _ _ gp8
      have gp9 := s17 _ _ gp9
      have gp10 := s17 _ _ gp10
      have gp11 := s17 _ _ gp11
      have gp12 := s17 _ _ gp12
      have gp13 := s17 _ _ gp13
      have gp14 := s17 _ _ gp14
      have gp15 := s17 _ _ gp15
      have gp16 := s17 _ _ gp16
      have S17 := S16.trans s17
      walk_at "rr"
      refine ⟨k_sz rfl, fun p18 hp18 => ?_⟩
      generalize hH18 : upd H17 p18 _ = H18
      have s18 : Same H17 H18 := hH18 ▸ Same.upd hp18
      have gp18 : H18 p18 = some (.tup [.ref m]) := hH18 ▸ upd_same
      clear hH18
      have ha := s18 _ _ ha
      have ht := s18 _ _ ht
      have gp1 := s18 _ _ gp1
      have gp2 := s18 _ _ gp2
      have gp3 := s18 _ _ gp3
      have gp4 := s18 _ _ gp4
      have gp5 := s18 _ _ gp5
      have gp6 := s18 _ _ gp6
      have gp7 := s18 _ _ gp7
      have gp8 := s18 _ _ gp8
      have gp9 := s18 _ _ gp9
      have gp10 := s18 _ _ gp10
      have gp11 := s18 _ _ gp11
      have gp12 := s18 _ _ gp12
      have gp13 := s18 _ _ gp13
      have gp14 := s18 _ _ gp14
      have gp15 := s18 _ _ gp15
      have gp16 := s18 _ _ gp16
      have gp17 := s18 _ _ gp17
      have S18 := S17.trans s18
      walk_at "rr"
      refine ⟨t, p18, tv, [.ref m], rfl, rfl, ht, gp18, (by intro z; cases z), Nat.le_trans (show tv.length + 1 ≤ 10 by omega) (by decide), fun p19 H19 s19 gp19 => ?_⟩
      have ha := s19 _ _ ha
      have ht := s19 _ _ ht
      have gp1 := s19 _ _ gp1
      have gp2 := s19 _ _ gp2
      have gp3 := s19 _ _ gp3
      have gp4 := s19 _ _ gp4
      have gp5 := s19 _ _ gp5
      have gp6 := s19 _ _ gp6
      have gp7 := s19 _ _ gp7
      have gp8 := s19 _ _ gp8
      have gp9 := s19 _ _ gp9
      have gp10 := s19 _ _ gp10
      have gp11 := s19 _ _ gp11
      have gp12 := s19 _ _ gp12
      have gp13 := s19 _ _ gp13
      have gp14 := s19 _ _ gp14
      have gp15 := s19 _ _ gp15
      have gp16 := s19 _ _ gp16
      have gp17 := s19 _ _ gp17
      have gp18 := s19 _ _ gp18
      have S19 := S18.trans s19
      walk_at "rr"
      refine ⟨k_sz rfl, fun p20 hp20 => ?_⟩
      generalize hH20 : upd H19 p20 _ = H20
      have s20 : Same H19 H20 := hH20 ▸ Same.upd hp20
      have gp20 : H20 p20 = some (.tup [.ref p19]) := hH20 ▸ upd_same
      clear hH20
      have ha := s20 _ _ ha
      have ht := s20 _ _ ht
      have gp1 := s20 _ _ gp1
      have gp2 := s20 _ _ gp2
      have gp3 := s20 _ _ gp3
      have gp4 := s20 _ _ gp4
      have gp5 := s20 _ _ gp5
      have gp6 := s20 _ _ gp6
      have gp7 := s20 _ _ gp7
      have gp8 := s20 _ _ gp8
      have gp9 := s20 _ _ gp9
      have gp10 := s20 _ _ gp10
      have gp11 := s20 _ _ gp11
      have gp12 := s20 _ _ gp12
      have gp13 := s20 _ _ gp13
      have gp14 := s20 _ _ gp14
      have gp15 := s20 _ _ gp15
      have gp16 := s20 _ _ gp16
      have gp17 := s20 _ _ gp17
      have gp18 := s20 _ _ gp18
      have gp19 := s20 _ _ gp19
      have S20 := S19.trans s20
      walk_at "rr"
      refine ⟨p17, p20, [.str pt.kind, .str pt.tb, .ref r, .ref c, .ref q, .ref s], [.ref p19], rfl, rfl, SqT.of gp17, SqT.of gp20, by simp, k_sz rfl, fun z => absurd z (by simp), fun _ p21 hp21 => ?_⟩
      generalize hH21 : upd H20 p21 _ = H21
      have s21 : Same H20 H21 := hH21 ▸ Same.upd hp21
      have gp21 : H21 p21 = some (.tup [.str pt.kind, .str pt.tb, .ref r, .ref c, .ref q, .ref s, .ref p19]) := hH21 ▸ upd_same
      clear hH21
      have ha := s21 _ _ ha
      have ht := s21 _ _ ht
      have gp1 := s21 _ _ gp1
      have gp2 := s21 _ _ gp2
      have gp3 := s21 _ _ gp3
      have gp4 := s21 _ _ gp4
      have gp5 := s21 _ _ gp5
      have gp6 := s21 _ _ gp6
      have gp7 := s21 _ _ gp7
      have gp8 := s21 _ _ gp8
      have gp9 := s21 _ _ gp9
      have gp10 := s21 _ _ gp10
      have gp11 := s21 _ _ gp11
      have gp12 := s21 _ _ gp12
      have gp13 := s21 _ _ gp13
      have gp14 := s21 _ _ gp14
      have gp15 := s21 _ _ gp15
      have gp16 := s21 _ _ gp16
      have gp17 := s21 _ _ gp17
      have gp18 := s21 _ _ gp18
      have gp19 := s21 _ _ gp19
      have gp20 := s21 _ _ gp20
      have S21 := S20.trans s21
      walk_at "rr"
      refine ⟨k_sz rfl, fun L hL => ?_⟩
      have fL : H L = none := same_free S21 hL
      have sF : Same H (upd H21 L (.lst [.ref a, .ref p6, .ref p12, .ref p16, .ref p21])) := S21.trans (Same.upd hL)
      have tp := Tups.same sF
      have up : ∀ {b : Addr} {xs : List V}, H21 b = some (.tup xs) → (upd H21 L (.lst [.ref a, .ref p6, .ref p12, .ref p16, .ref p21])) b = some (.tup xs) := fun e => Same.upd hL _ _ e
      have Dr := dr.keep tp
      have Dc := dc.keep tp
      have Dq := dq.keep tp
      have Ds := ds.keep tp
      have Dt := dt.keep tp
      have De : ∀ {b : Addr}, H21 b = some (.tup []) → DT (upd H21 L (.lst [.ref a, .ref p6, .ref p12, .ref p16, .ref p21])) (.ref b) (.tuple []) := fun e => .tup (up e) .nil
      refine QQ L _ _ sF fL upd_same (.cons (hpt.keep tp) (.cons ?_ (.cons ?_ (.cons ?_ (.cons ?_ .nil)))))
      · exact .tup (up gp6) (.cons (.str _) (.cons (.str _) (.cons Dr (.cons (De gp2) (.cons Dq (.cons Ds (.cons Dt .nil)))))))
      · exact .tup (up gp12) (.cons (.str _) (.cons (.str _) (.cons Dr (.cons Dc (.cons (De gp8) (.cons Ds (.cons Dt .nil)))))))
      · exact .tup (up gp16) (.cons (.str _) (.cons (.str _) (.cons Dr (.cons Dc (.cons Dq (.cons Ds (.cons (De gp14) .nil)))))))
      · refine .tup (up gp21) (.cons (.str _) (.cons (.str _) (.cons Dr (.cons Dc (.cons Dq (.cons Ds (.cons (.tup (up gp19) ?_) .nil)))))))
        show DTs _ (tv ++ [V.ref m]) ((pt.told ++ [u]).map useD)
        rw [List.map_append]
        exact (dtv.keep tp).app (.cons (dm.keep tp) .nil)
    walk_at "rr"
    refine ⟨a, xs, rfl, hs, lx, fun d c H1 hd hc D1 s1 => ?_⟩
    walk_at "rr"
    refine ⟨k_sz rfl, fun K0 hK0 => ?_⟩
    have nK : ¬ Dk d c K0 := D1.off hK0
    walk_at "rr"
    let Pv : Nat → L2.St → Hp → Prop := fun i σ H' => ∃ o1 o4 o5 o6 o7 o8 o9 o10, σ = [some (.ref a), o1, some (.ref d), some (.ref K0), o4, o5, o6, o7, o8, o9, o10] ∧ ∃ ks, H' K0 = some (.lst ks) ∧ ks.length = 5 * i ∧ (∀ v ∈ ks, KpAt S C H' v) ∧ DeckE d c (700 * i) H'
    refine ⟨6, rfl, by decide, by decide, for_range (lo := 0) (n := 6) Pv ⟨none, none, none, none, none, none, none, none, rfl, [], upd_same, rfl, (fun _ z => by cases z), by simpa using D1.new hK0⟩ (fun i σ H2 hi h => ?_) (fun σ H2 h => ?_)⟩
    · obtain ⟨o1, o4, o5, o6, o7, o8, o9, o10, rfl, ks, hK, lks, kp, D2⟩ := h
      walk_at "rr"
      refine ⟨d, c, _, rfl, D2, by omega, fun l ts H3 lt T3 ksf hl nl fl D3 x3 => ?_⟩
      have hK3 := x3.2 _ _ nK hK
      have kp3 : ∀ v ∈ ks, KpAt S C H3 v := fun v hv => (kp v hv).extM D2 hK (ext_mk x3)
      walk_at "rr"
      refine ⟨l, ts, rfl, hl, T3, lt, fun p zs H4 S4 s4 => ?_⟩
      have T4 := T3.ext (M := fun _ => False) (Same.ext s4)
      have D4 := D3.same s4
      have hl4 := s4 _ _ hl
      have hK4 := s4 _ _ hK3
      have kp4 : ∀ v ∈ ks, KpAt S C H4 v := fun v hv => (kp3 v hv).same s4
      walk_at "rr"
      refine ⟨d, c, l, _, 5, ts, rfl, D4, by omega, by decide, hl4, nl, T4, lt, fun ap pt H5 rp dpt D5 x5 => ?_⟩
      have hK5 := x5.2 _ _ nK hK4
      have kp5 : ∀ v ∈ ks, KpAt S C H5 v := fun v hv => (kp4 v hv).extM D4 hK4 (ext_mk x5)
      have S5 := S4.extM D4 hK4 (ext_mk x5)
      have hl5 := x5.2 _ _ nl hl4
      have T5 := T4.ext x5
      have dpt0 := dpt
      obtain ⟨ap', r, _, _, _, _, e, hap, dr, _, _, _, _⟩ := pt_at dpt
      cases e
      have fit := right_fit lt T5.nd ksf rp
      walk_at "rr"
      refine ⟨l, r, ts, pt.refs, rfl, hl5, T5, by omega, dr, fit.rt, fit.r2, fun lu H6 us6 fu s6 => ?_⟩
      obtain ⟨uvs, hu, du⟩ := us6
      have nlu : ¬ Dk d c lu := D5.off fu
      have luv : uvs.length = (usesOf ts pt.refs).length := by rw [du.len, List.length_map]
      have D6 := D5.same s6
      have une : 0 < (usesOf ts pt.refs).length := by
        obtain ⟨u0, hu0⟩ : ∃ u, pt.refs[0]? = some u := ⟨_, List.getElem?_eq_getElem (by have := fit.r1; omega)⟩
        obtain ⟨u, hu, _⟩ := uses_in T5.ok (List.mem_of_getElem? hu0) (fit.rt u0 (List.mem_of_getElem? hu0))
        exact List.length_pos_of_mem hu
      have uls : (usesOf ts pt.refs).length ≤ 100 := by
        have := uses_len T5.ok pt.refs
        have := fit.r2
        omega
      walk_at "rr"
      refine ⟨d, c, lu, _, uvs, rfl, D6, by omega, .inl ⟨hu, nlu⟩, by omega, by omega, fun mv H7 hm D7 x7 => ?_⟩
      obtain ⟨u, mu, dm⟩ := pick_use (du.keep x7.1) hm
      obtain ⟨m, rfl, _⟩ := use_at dm
      have kp7 : ∀ v ∈ ks, KpAt S C H7 v := fun v hv => ((kp5 v hv).same s6).extM D6 (s6 _ _ hK5) (ext_mk x7)
      have hK7 := x7.2 _ _ nK (s6 _ _ hK5)
      have S7 := (S5.same s6).extM D6 (s6 _ _ hK5) (ext_mk x7)
      have dpt7 := (dpt0.keep (Tups.same s6)).keep x7.1
      walk_at "rr"
      refine ⟨ap, m, pt, u, _, _, _, _, _, _, _, _, _, rfl, dpt7, dm, rp.tl, fun L vs H8 s8 fL gL dvs => ?_⟩
      have vfit := vars_fit fit rp.tl mu
      have nL : L ≠ K0 := (ne_of_none hK7 fL).symm
      have lvs : vs.length = 5 := by rw [dvs.len]; rfl
      walk_at "rr"
      let Pw : Nat → L2.St → Hp → Prop := fun j σ H' => ∃ o7 o10, σ = [some (.ref a), some (.int (0 + (i : Int))), some (.ref d), some (.ref K0), some (.ref l), some (.ref m), some (.ref L), o7, some (.ref p), some (.ref ap), o10] ∧
        ∃ ks, H' K0 = some (.lst ks) ∧ ks.length = 5 * i + j ∧ (∀ v ∈ ks, KpAt S C H' v) ∧ DeckE d c (700 * (i + 1 : Nat)) H' ∧ H' L = some (.lst vs) ∧ DTs H' vs ((vars pt u).map Pt.d) ∧ SchAt C H' p ts zs
      refine ⟨L, rfl, ⟨_, SqL.of gL⟩, for_it (walk_list (xs := vs)) Pw ⟨_, _, rfl, ks, s8 _ _ hK7, by omega, fun v hv => (kp7 v hv).same s8, (D7.same s8).mono (by omega), gL, dvs, S7.same s8⟩ (fun j σ H' _ h => ?_) (fun j z σ H9 H10 hj h y => ?_) fun σ H9 h => ?_⟩
      · obtain ⟨_, _, _, _, _, _, _, _, g, _⟩ := h
        exact SqL.of g
      · obtain ⟨o7, o10, rfl, ks2, hK9, lks2, kp9, D9, gL9, dvs9, S9⟩ := h
        obtain ⟨rfl, y⟩ := y
        have e : vs[j]? = some z := y
        obtain ⟨dd, e1, e2⟩ := dvs9.at_ e
        rw [List.getElem?_map] at e1
        obtain ⟨pj, hpj, rfl⟩ := Option.map_eq_some_iff.mp e1
        have fj := vfit pj (List.mem_of_getElem? hpj)
        obtain ⟨va, _, _, _, _, _, rfl, _⟩ := pt_at e2
        walk_at "rr"
        refine ⟨p, va, ts, zs, pj, rfl, S9, e2, fj, fun x q H11 st s11 => ?_⟩
        walk_at "rr"
        refine ⟨x, va, p, q, ts, zs, pj, rfl, st, e2.keep (Tups.same s11), fj, fun H12 s12 => ?_⟩
        have s912 := s11.trans s12
        have hK12 := s912 _ _ hK9
        walk_at "rr"
        refine ⟨k_tyL hK12, ?_⟩
        walk_at "rr"
        refine ⟨k_sz rfl, fun g hg => ?_⟩
        generalize hH13 : upd H12 g _ = H13
        have s13 : Same H12 H13 := hH13 ▸ Same.upd hg
        have gg : H13 g = some (.tup [.ref x, .ref va]) := hH13 ▸ upd_same
        have hK13 := s13 _ _ hK12
        have sAll := s912.trans s13
        have D13 := D9.same sAll
        have up : Tups H13 (upd H13 K0 (.lst (ks2 ++ [V.ref g]))) := tups_upd hK13 fun _ z => by cases z
        have xE : Ext (Mk d c K0) H13 (upd H13 K0 (.lst (ks2 ++ [V.ref g]))) := ⟨up, fun b o n e => (upd_ne fun z => n (.inr z)).trans e⟩
        walk_at "rr"
        refine k_app hK13 (k_szL (by omega)) ?_
        have gL13 := sAll _ _ gL9
        refine ⟨_, _, rfl, ks2 ++ [V.ref g], upd_same, by rw [List.length_append, lks2]; rfl, fun v hv => ?_, D13.offL nK, (upd_ne nL).trans gL13, (dvs9.keep (Tups.same sAll)).keep up, (S9.same sAll).extM D13 hK13 xE⟩
        rcases List.mem_append.mp hv with hv | hv
        · exact ((kp9 v hv).same sAll).extM D13 hK13 xE
        · obtain rfl := List.mem_singleton.mp hv
          have st13 := (st.same s12).same s13
          exact KpAt.extM (xs := ks2) ⟨g, x, va, p, q, ts, zs, pj, rfl, gg, st13, e2.keep (Tups.same sAll), fj⟩ D13 hK13 xE
      · obtain ⟨o7, o10, rfl, ks2, hK9, lks2, kp9, D9, _⟩ := h
        rw [lvs] at lks2
        exact ⟨_, _, _, _, _, _, _, _, rfl, ks2, hK9, by omega, kp9, D9⟩
    · obtain ⟨o1, o4, o5, o6, o7, o8, o9, o10, rfl, ks, hK, lks, kp, D2⟩ := h
      walk_at "rr"
      refine ⟨K0, rfl, ⟨_, SqL.of hK⟩, fun Dl hDl => ?_⟩
      refine lc_it (walk_list (xs := ks)) (fun i H' => Same H2 H' ∧ H' Dl = some (.lst [])) ⟨Same.upd hDl, upd_same⟩ (fun i H' _ h => SqL.of (h.1 _ _ hK)) (fun i z H3 H4 hi h y => ?_) (fun H3 h => ?_)
      · obtain ⟨s3, hD3⟩ := h
        obtain ⟨rfl, y⟩ := y
        have e : ks[i]? = some z := y
        obtain ⟨g, x, va, p, q, ts, zs, pj, rfl, gg, st, da, fj⟩ := (kp z (List.mem_of_getElem? e)).same s3
        refine k_gTup (SqT.of gg) rfl ?_
        walk_at "rr"
        refine ⟨rfl, ?_⟩
        walk_at "rr"
        refine ⟨x, va, p, q, ts, zs, pj, rfl, st, da, fj, fun H5 s5 => ?_⟩
        walk_at "rr"
        exact ⟨s3.trans s5, s5 _ _ hD3⟩
      · obtain ⟨s3, hD3⟩ := h
        walk_at "rr"
        refine ⟨k_sz rfl, fun e0 he0 => ?_⟩
        refine ⟨.list [], .list [], .lst (SqL.of (lk_new hD3 he0)) .nil, .lst (SqL.of upd_same) .nil, by decide, by decide, ?_⟩
        rw [show (PyData.list []).eqv (PyData.list []) = true from rfl]
        exact k _
end
end K11

set_option Elab.async false
set_option maxRecDepth 100000
set_option maxHeartbeats 4000000
set_option linter.unusedVariables false
namespace K11
open PySem PySem.Spec PyProof.Rows L2 Own
theorem all_mk {l : PySem.W.OpenLaw} {w : World} {K : PySem.W.Frag} {h : Heap} {mg : Str → Option Value} {fa C S DK e0 prcnd prprb prstg prtld prprt : Addr} (X : K.In h) (GG : h.Ns mainGlobals mg) (hfa : mg "law" = some (.ref fa))
    {aKINDS : Addr} {odKINDS : Option Addr} {slKINDS : Array (Option Value)} {nKINDS : Nat} {tkKINDS0 tkKINDS1 tkKINDS2 : Tok}
    {aWORDS : Addr} {odWORDS : Option Addr} {slWORDS : Array (Option Value)} {nWORDS : Nat} {tkWORDS0 tkWORDS1 : Tok}
    {aSIGNS : Addr} {odSIGNS : Option Addr} {slSIGNS : Array (Option Value)} {nSIGNS : Nat} {tkSIGNS0 tkSIGNS1 tkSIGNS2 : Tok}
    {aOWN_SIGNS : Addr} {odOWN_SIGNS : Option Addr} {slOWN_SIGNS : Array (Option Value)} {nOWN_SIGNS : Nat} {tkOWN_SIGNS0 tkOWN_SIGNS1 : Tok}
    {aLINK_SIGNS : Addr} {odLINK_SIGNS : Option Addr} {slLINK_SIGNS : Array (Option Value)} {nLINK_SIGNS : Nat} {tkLINK_SIGNS0 tkLINK_SIGNS1 tkLINK_SIGNS2 : Tok}
    {fI : Addr} {odI anI : Option Addr} {slI : Array (Option Value)} {ocI kVI dcI pmI cdI ctI : Value}
    {fin : Addr} {odin anin : Option Addr} {slin : Array (Option Value)} {ocin kVin dcin pmin cdin ctin : Value}
    {fget : Addr} {odget anget : Option Addr} {slget : Array (Option Value)} {ocget kVget dcget pmget cdget ctget : Value}
    {fSI : Addr} {odSI anSI : Option Addr} {slSI : Array (Option Value)} {ocSI dcSI pmSI cdSI ctSI : Value}
    {frd : Addr} {odrd anrd : Option Addr} {slrd : Array (Option Value)} {ocrd kVrd dcrd pmrd cdrd ctrd : Value}
    {fcnd : Addr} {odcnd ancnd : Option Addr} {slcnd : Array (Option Value)} {occnd kVcnd dccnd pmcnd cdcnd ctcnd : Value}
    {fprb : Addr} {odprb anprb : Option Addr} {slprb : Array (Option Value)} {ocprb kVprb dcprb pmprb cdprb ctprb : Value}
    {fstg : Addr} {odstg anstg : Option Addr} {slstg : Array (Option Value)} {ocstg kVstg dcstg pmstg cdstg ctstg : Value}
    {ftld : Addr} {odtld antld : Option Addr} {sltld : Array (Option Value)} {octld kVtld dctld pmtld cdtld cttld : Value}
    {fprt : Addr} {odprt anprt : Option Addr} {slprt : Array (Option Value)} {ocprt kVprt dcprt pmprt cdprt ctprt : Value}
    {restcnd restprb reststg resttld restprt : List Value} {tkL tkMOST_COLUMNS tkMOST_REFERENCES tkMOST_CONDITIONS tkMOST_PROBES tkMOST_OWN : Tok}
    (vL : PySem.W.nsIn K mainGlobals "LETTERS" = some (some (.str letters tkL)))
    (vMOST_COLUMNS : PySem.W.nsIn K mainGlobals "MOST_COLUMNS" = some (some (.int 3 tkMOST_COLUMNS)))
    (vMOST_REFERENCES : PySem.W.nsIn K mainGlobals "MOST_REFERENCES" = some (some (.int 2 tkMOST_REFERENCES)))
    (vMOST_CONDITIONS : PySem.W.nsIn K mainGlobals "MOST_CONDITIONS" = some (some (.int 5 tkMOST_CONDITIONS)))
    (vMOST_PROBES : PySem.W.nsIn K mainGlobals "MOST_PROBES" = some (some (.int 2 tkMOST_PROBES)))
    (vMOST_OWN : PySem.W.nsIn K mainGlobals "MOST_OWN" = some (some (.int 2 tkMOST_OWN)))
    (vKINDS : PySem.W.nsIn K mainGlobals "KINDS" = some (some (.ref aKINDS)))
    (lKINDS : K.lookup aKINDS = some ⟨.type "tuple", odKINDS, .seq #[.str "update" tkKINDS0, .str "delete" tkKINDS1, .str "insert" tkKINDS2] nKINDS, slKINDS⟩)
    (vWORDS : PySem.W.nsIn K mainGlobals "WORDS" = some (some (.ref aWORDS)))
    (lWORDS : K.lookup aWORDS = some ⟨.type "tuple", odWORDS, .seq #[.str "some" tkWORDS0, .str "none" tkWORDS1] nWORDS, slWORDS⟩)
    (vSIGNS : PySem.W.nsIn K mainGlobals "SIGNS" = some (some (.ref aSIGNS)))
    (lSIGNS : K.lookup aSIGNS = some ⟨.type "tuple", odSIGNS, .seq #[.str "<=" tkSIGNS0, .str "=" tkSIGNS1, .str "!=" tkSIGNS2] nSIGNS, slSIGNS⟩)
    (vOWN_SIGNS : PySem.W.nsIn K mainGlobals "OWN_SIGNS" = some (some (.ref aOWN_SIGNS)))
    (lOWN_SIGNS : K.lookup aOWN_SIGNS = some ⟨.type "tuple", odOWN_SIGNS, .seq #[.str "<=" tkOWN_SIGNS0, .str "=" tkOWN_SIGNS1] nOWN_SIGNS, slOWN_SIGNS⟩)
    (vLINK_SIGNS : PySem.W.nsIn K mainGlobals "LINK_SIGNS" = some (some (.ref aLINK_SIGNS)))
    (lLINK_SIGNS : K.lookup aLINK_SIGNS = some ⟨.type "tuple", odLINK_SIGNS, .seq #[.str "<=" tkLINK_SIGNS0, .str "=" tkLINK_SIGNS1, .str ">=" tkLINK_SIGNS2] nLINK_SIGNS, slLINK_SIGNS⟩)
    (aC : PySem.W.nsIn K mainGlobals "Schema" = some (some (.ref C)))
    (pgC : PySem.W.plainGet K C Str.empty = true)
    (hdC : PySem.W.hasDictIn K C = true)
    (poC : PySem.W.plainOver K C = true)
    (saC : PySem.W.findIn K (.ref C) "__setattr__" = some (some (.builtin "object.__setattr__")))
    (mkC : PySem.W.makesIn K C = true)
    (kCC : PySem.W.keepIn K (.ref C) = true)
    (nN : PySem.W.findIn K (.ref C) "_named" = some none)
    (nT : PySem.W.findIn K (.ref C) "_tables" = some none)
    (aI : PySem.W.findIn K (.ref C) "__init__" = some (some (.ref fI)))
    (iI : PySem.W.isFn K (.ref fI) = true)
    (lI : K.lookup fI = some ⟨ocI, odI, .func (PySem.W.fnOf "__init__" "Schema.__init__" (defArgs s_Schema___init__) (defBody s_Schema___init__) (defScope s_Schema___init__) .none kVI dcI pmI anI cdI ctI), slI⟩)
    (cI : PySem.W.codeIn K cdI "Schema.__init__" = true)
    (kI : PySem.W.keepIn K (.ref fI) = true)
    (ain : PySem.W.findIn K (.ref C) "__contains__" = some (some (.ref fin)))
    (iin : PySem.W.isFn K (.ref fin) = true)
    (lin : K.lookup fin = some ⟨ocin, odin, .func (PySem.W.fnOf "__contains__" "Schema.__contains__" (defArgs s_Schema___contains__) (defBody s_Schema___contains__) (defScope s_Schema___contains__) .none kVin dcin pmin anin cdin ctin), slin⟩)
    (cin : PySem.W.codeIn K cdin "Schema.__contains__" = true)
    (kin : PySem.W.keepIn K (.ref fin) = true)
    (aget : PySem.W.findIn K (.ref C) "__getitem__" = some (some (.ref fget)))
    (iget : PySem.W.isFn K (.ref fget) = true)
    (lget : K.lookup fget = some ⟨ocget, odget, .func (PySem.W.fnOf "__getitem__" "Schema.__getitem__" (defArgs s_Schema___getitem__) (defBody s_Schema___getitem__) (defScope s_Schema___getitem__) .none kVget dcget pmget anget cdget ctget), slget⟩)
    (cget : PySem.W.codeIn K cdget "Schema.__getitem__" = true)
    (kget : PySem.W.keepIn K (.ref fget) = true)
    (iget2 : PySem.W.fnIn K fget = true)
    (aS : PySem.W.nsIn K mainGlobals "Statement" = some (some (.ref S)))
    (pgS : PySem.W.plainGet K S Str.empty = true)
    (hdS : PySem.W.hasDictIn K S = true)
    (poS : PySem.W.plainOver K S = true)
    (saS : PySem.W.findIn K (.ref S) "__setattr__" = some (some (.builtin "object.__setattr__")))
    (mkS : PySem.W.makesIn K S = true)
    (kCS : PySem.W.keepIn K (.ref S) = true)
    (nSs : PySem.W.findIn K (.ref S) "_schema" = some none)
    (nSp : PySem.W.findIn K (.ref S) "_parts" = some none)
    (aSI : PySem.W.findIn K (.ref S) "__init__" = some (some (.ref fSI)))
    (iSI : PySem.W.isFn K (.ref fSI) = true)
    (lSI : K.lookup fSI = some ⟨ocSI, odSI, .func (PySem.W.fnOf "__init__" "Statement.__init__" (defArgs s_Statement___init__) (defBody s_Statement___init__) (defScope s_Statement___init__) .none (.ref DK) dcSI pmSI anSI cdSI ctSI), slSI⟩)
    (cSI : PySem.W.codeIn K cdSI "Statement.__init__" = true)
    (kSI : PySem.W.keepIn K (.ref fSI) = true)
    (dk0 : PySem.W.nsIn K DK "conditions" = some (some (.ref e0)))
    (ard : PySem.W.findIn K (.ref S) "reads" = some (some (.ref frd)))
    (ird : PySem.W.isFn K (.ref frd) = true)
    (lrd : K.lookup frd = some ⟨ocrd, odrd, .func (PySem.W.fnOf "reads" "Statement.reads" (defArgs s_Statement_reads) (defBody s_Statement_reads) (defScope s_Statement_reads) .none kVrd dcrd pmrd anrd cdrd ctrd), slrd⟩)
    (crd : PySem.W.codeIn K cdrd "Statement.reads" = true)
    (krd : PySem.W.keepIn K (.ref frd) = true)
    (pcnd : PySem.W.findIn K (.ref S) "conditions" = some (some (.ref prcnd)))
    (gcnd : PySem.W.specialIn K (.ref prcnd) "__get__" = some (some (.builtin "property.__get__")))
    (tcnd : PySem.W.takesIn K (.ref prcnd) = some true)
    (rcnd : PySem.W.recIn K prcnd "property" = some (.ref fcnd :: restcnd))
    (lcnd : K.lookup fcnd = some ⟨occnd, odcnd, .func (PySem.W.fnOf "conditions" "Statement.conditions" (defArgs s_Statement_conditions) (defBody s_Statement_conditions) (defScope s_Statement_conditions) .none kVcnd dccnd pmcnd ancnd cdcnd ctcnd), slcnd⟩)
    (ccnd : PySem.W.codeIn K cdcnd "Statement.conditions" = true)
    (kcnd : PySem.W.keepIn K (.ref fcnd) = true)
    (pprb : PySem.W.findIn K (.ref S) "probes" = some (some (.ref prprb)))
    (gprb : PySem.W.specialIn K (.ref prprb) "__get__" = some (some (.builtin "property.__get__")))
    (tprb : PySem.W.takesIn K (.ref prprb) = some true)
    (rprb : PySem.W.recIn K prprb "property" = some (.ref fprb :: restprb))
    (lprb : K.lookup fprb = some ⟨ocprb, odprb, .func (PySem.W.fnOf "probes" "Statement.probes" (defArgs s_Statement_probes) (defBody s_Statement_probes) (defScope s_Statement_probes) .none kVprb dcprb pmprb anprb cdprb ctprb), slprb⟩)
    (cprb : PySem.W.codeIn K cdprb "Statement.probes" = true)
    (kprb : PySem.W.keepIn K (.ref fprb) = true)
    (pstg : PySem.W.findIn K (.ref S) "settings" = some (some (.ref prstg)))
    (gstg : PySem.W.specialIn K (.ref prstg) "__get__" = some (some (.builtin "property.__get__")))
    (tstg : PySem.W.takesIn K (.ref prstg) = some true)
    (rstg : PySem.W.recIn K prstg "property" = some (.ref fstg :: reststg))
    (lstg : K.lookup fstg = some ⟨ocstg, odstg, .func (PySem.W.fnOf "settings" "Statement.settings" (defArgs s_Statement_settings) (defBody s_Statement_settings) (defScope s_Statement_settings) .none kVstg dcstg pmstg anstg cdstg ctstg), slstg⟩)
    (cstg : PySem.W.codeIn K cdstg "Statement.settings" = true)
    (kstg : PySem.W.keepIn K (.ref fstg) = true)
    (ptld : PySem.W.findIn K (.ref S) "told" = some (some (.ref prtld)))
    (gtld : PySem.W.specialIn K (.ref prtld) "__get__" = some (some (.builtin "property.__get__")))
    (ttld : PySem.W.takesIn K (.ref prtld) = some true)
    (rtld : PySem.W.recIn K prtld "property" = some (.ref ftld :: resttld))
    (ltld : K.lookup ftld = some ⟨octld, odtld, .func (PySem.W.fnOf "told" "Statement.told" (defArgs s_Statement_told) (defBody s_Statement_told) (defScope s_Statement_told) .none kVtld dctld pmtld antld cdtld cttld), sltld⟩)
    (ctld : PySem.W.codeIn K cdtld "Statement.told" = true)
    (ktld : PySem.W.keepIn K (.ref ftld) = true)
    (pprt : PySem.W.findIn K (.ref S) "parts" = some (some (.ref prprt)))
    (gprt : PySem.W.specialIn K (.ref prprt) "__get__" = some (some (.builtin "property.__get__")))
    (tprt : PySem.W.takesIn K (.ref prprt) = some true)
    (rprt : PySem.W.recIn K prprt "property" = some (.ref fprt :: restprt))
    (lprt : K.lookup fprt = some ⟨ocprt, odprt, .func (PySem.W.fnOf "parts" "Statement.parts" (defArgs s_Statement_parts) (defBody s_Statement_parts) (defScope s_Statement_parts) .none kVprt dcprt pmprt anprt cdprt ctprt), slprt⟩)
    (cprt : PySem.W.codeIn K cdprt "Statement.parts" = true)
    (kprt : PySem.W.keepIn K (.ref fprt) = true)
    {f1 : Addr} {od1 an1 : Option Addr} {sl1 : Array (Option Value)} {oc1 kV1 dc1 pm1 cd1 ct1 : Value}
    (a1 : PySem.W.nsIn K mainGlobals "is_name" = some (some (.ref f1))) (l1 : K.lookup f1 = some ⟨oc1, od1, .func (PySem.W.fnOf "is_name" "is_name" (defArgs s_is_name) (defBody s_is_name) (defScope s_is_name) .none kV1 dc1 pm1 an1 cd1 ct1), sl1⟩)
    (c1 : PySem.W.codeIn K cd1 "is_name" = true) (k1 : PySem.W.keepIn K (.ref f1) = true)
    {f2 : Addr} {od2 an2 : Option Addr} {sl2 : Array (Option Value)} {oc2 kV2 dc2 pm2 cd2 ct2 : Value}
    (a2 : PySem.W.nsIn K mainGlobals "is_tuple" = some (some (.ref f2))) (l2 : K.lookup f2 = some ⟨oc2, od2, .func (PySem.W.fnOf "is_tuple" "is_tuple" (defArgs s_is_tuple) (defBody s_is_tuple) (defScope s_is_tuple) .none kV2 dc2 pm2 an2 cd2 ct2), sl2⟩)
    (c2 : PySem.W.codeIn K cd2 "is_tuple" = true) (k2 : PySem.W.keepIn K (.ref f2) = true)
    {f3 : Addr} {od3 an3 : Option Addr} {sl3 : Array (Option Value)} {oc3 kV3 dc3 pm3 cd3 ct3 : Value}
    (a3 : PySem.W.nsIn K mainGlobals "is_ascending" = some (some (.ref f3))) (l3 : K.lookup f3 = some ⟨oc3, od3, .func (PySem.W.fnOf "is_ascending" "is_ascending" (defArgs s_is_ascending) (defBody s_is_ascending) (defScope s_is_ascending) .none kV3 dc3 pm3 an3 cd3 ct3), sl3⟩)
    (c3 : PySem.W.codeIn K cd3 "is_ascending" = true) (k3 : PySem.W.keepIn K (.ref f3) = true)
    {f4 : Addr} {od4 an4 : Option Addr} {sl4 : Array (Option Value)} {oc4 kV4 dc4 pm4 cd4 ct4 : Value}
    (a4 : PySem.W.nsIn K mainGlobals "_are_columns" = some (some (.ref f4))) (l4 : K.lookup f4 = some ⟨oc4, od4, .func (PySem.W.fnOf "_are_columns" "_are_columns" (defArgs s__are_columns) (defBody s__are_columns) (defScope s__are_columns) .none kV4 dc4 pm4 an4 cd4 ct4), sl4⟩)
    (c4 : PySem.W.codeIn K cd4 "_are_columns" = true) (k4 : PySem.W.keepIn K (.ref f4) = true)
    {f5 : Addr} {od5 an5 : Option Addr} {sl5 : Array (Option Value)} {oc5 kV5 dc5 pm5 cd5 ct5 : Value}
    (a5 : PySem.W.nsIn K mainGlobals "_are_some" = some (some (.ref f5))) (l5 : K.lookup f5 = some ⟨oc5, od5, .func (PySem.W.fnOf "_are_some" "_are_some" (defArgs s__are_some) (defBody s__are_some) (defScope s__are_some) .none kV5 dc5 pm5 an5 cd5 ct5), sl5⟩)
    (c5 : PySem.W.codeIn K cd5 "_are_some" = true) (k5 : PySem.W.keepIn K (.ref f5) = true)
    {f6 : Addr} {od6 an6 : Option Addr} {sl6 : Array (Option Value)} {oc6 kV6 dc6 pm6 cd6 ct6 : Value}
    (a6 : PySem.W.nsIn K mainGlobals "is_table" = some (some (.ref f6))) (l6 : K.lookup f6 = some ⟨oc6, od6, .func (PySem.W.fnOf "is_table" "is_table" (defArgs s_is_table) (defBody s_is_table) (defScope s_is_table) .none kV6 dc6 pm6 an6 cd6 ct6), sl6⟩)
    (c6 : PySem.W.codeIn K cd6 "is_table" = true) (k6 : PySem.W.keepIn K (.ref f6) = true)
    {f7 : Addr} {od7 an7 : Option Addr} {sl7 : Array (Option Value)} {oc7 kV7 dc7 pm7 cd7 ct7 : Value}
    (a7 : PySem.W.nsIn K mainGlobals "is_integer" = some (some (.ref f7))) (l7 : K.lookup f7 = some ⟨oc7, od7, .func (PySem.W.fnOf "is_integer" "is_integer" (defArgs s_is_integer) (defBody s_is_integer) (defScope s_is_integer) .none kV7 dc7 pm7 an7 cd7 ct7), sl7⟩)
    (c7 : PySem.W.codeIn K cd7 "is_integer" = true) (k7 : PySem.W.keepIn K (.ref f7) = true)
    {f8 : Addr} {od8 an8 : Option Addr} {sl8 : Array (Option Value)} {oc8 kV8 dc8 pm8 cd8 ct8 : Value}
    (a8 : PySem.W.nsIn K mainGlobals "_are_few" = some (some (.ref f8))) (l8 : K.lookup f8 = some ⟨oc8, od8, .func (PySem.W.fnOf "_are_few" "_are_few" (defArgs s__are_few) (defBody s__are_few) (defScope s__are_few) .none kV8 dc8 pm8 an8 cd8 ct8), sl8⟩)
    (c8 : PySem.W.codeIn K cd8 "_are_few" = true) (k8 : PySem.W.keepIn K (.ref f8) = true)
    {f9 : Addr} {od9 an9 : Option Addr} {sl9 : Array (Option Value)} {oc9 kV9 dc9 pm9 cd9 ct9 : Value}
    (a9 : PySem.W.nsIn K mainGlobals "_is_condition" = some (some (.ref f9))) (l9 : K.lookup f9 = some ⟨oc9, od9, .func (PySem.W.fnOf "_is_condition" "_is_condition" (defArgs s__is_condition) (defBody s__is_condition) (defScope s__is_condition) .none kV9 dc9 pm9 an9 cd9 ct9), sl9⟩)
    (c9 : PySem.W.codeIn K cd9 "_is_condition" = true) (k9 : PySem.W.keepIn K (.ref f9) = true)
    {f10 : Addr} {od10 an10 : Option Addr} {sl10 : Array (Option Value)} {oc10 kV10 dc10 pm10 cd10 ct10 : Value}
    (a10 : PySem.W.nsIn K mainGlobals "_is_own" = some (some (.ref f10))) (l10 : K.lookup f10 = some ⟨oc10, od10, .func (PySem.W.fnOf "_is_own" "_is_own" (defArgs s__is_own) (defBody s__is_own) (defScope s__is_own) .none kV10 dc10 pm10 an10 cd10 ct10), sl10⟩)
    (c10 : PySem.W.codeIn K cd10 "_is_own" = true) (k10 : PySem.W.keepIn K (.ref f10) = true)
    {f11 : Addr} {od11 an11 : Option Addr} {sl11 : Array (Option Value)} {oc11 kV11 dc11 pm11 cd11 ct11 : Value}
    (a11 : PySem.W.nsIn K mainGlobals "_is_link" = some (some (.ref f11))) (l11 : K.lookup f11 = some ⟨oc11, od11, .func (PySem.W.fnOf "_is_link" "_is_link" (defArgs s__is_link) (defBody s__is_link) (defScope s__is_link) .none kV11 dc11 pm11 an11 cd11 ct11), sl11⟩)
    (c11 : PySem.W.codeIn K cd11 "_is_link" = true) (k11 : PySem.W.keepIn K (.ref f11) = true)
    {f12 : Addr} {od12 an12 : Option Addr} {sl12 : Array (Option Value)} {oc12 kV12 dc12 pm12 cd12 ct12 : Value}
    (a12 : PySem.W.nsIn K mainGlobals "_is_setting" = some (some (.ref f12))) (l12 : K.lookup f12 = some ⟨oc12, od12, .func (PySem.W.fnOf "_is_setting" "_is_setting" (defArgs s__is_setting) (defBody s__is_setting) (defScope s__is_setting) .none kV12 dc12 pm12 an12 cd12 ct12), sl12⟩)
    (c12 : PySem.W.codeIn K cd12 "_is_setting" = true) (k12 : PySem.W.keepIn K (.ref f12) = true)
    {f13 : Addr} {od13 an13 : Option Addr} {sl13 : Array (Option Value)} {oc13 kV13 dc13 pm13 cd13 ct13 : Value}
    (a13 : PySem.W.nsIn K mainGlobals "cells_of" = some (some (.ref f13))) (l13 : K.lookup f13 = some ⟨oc13, od13, .func (PySem.W.fnOf "cells_of" "cells_of" (defArgs s_cells_of) (defBody s_cells_of) (defScope s_cells_of) .none kV13 dc13 pm13 an13 cd13 ct13), sl13⟩)
    (c13 : PySem.W.codeIn K cd13 "cells_of" = true) (k13 : PySem.W.keepIn K (.ref f13) = true)
    {f14 : Addr} {od14 an14 : Option Addr} {sl14 : Array (Option Value)} {oc14 kV14 dc14 pm14 cd14 ct14 : Value}
    (a14 : PySem.W.nsIn K mainGlobals "_busy_tables" = some (some (.ref f14))) (l14 : K.lookup f14 = some ⟨oc14, od14, .func (PySem.W.fnOf "_busy_tables" "_busy_tables" (defArgs s__busy_tables) (defBody s__busy_tables) (defScope s__busy_tables) .none kV14 dc14 pm14 an14 cd14 ct14), sl14⟩)
    (c14 : PySem.W.codeIn K cd14 "_busy_tables" = true) (k14 : PySem.W.keepIn K (.ref f14) = true)
    {f15 : Addr} {od15 an15 : Option Addr} {sl15 : Array (Option Value)} {oc15 kV15 dc15 pm15 cd15 ct15 : Value}
    (a15 : PySem.W.nsIn K mainGlobals "_are_references" = some (some (.ref f15))) (l15 : K.lookup f15 = some ⟨oc15, od15, .func (PySem.W.fnOf "_are_references" "_are_references" (defArgs s__are_references) (defBody s__are_references) (defScope s__are_references) .none kV15 dc15 pm15 an15 cd15 ct15), sl15⟩)
    (c15 : PySem.W.codeIn K cd15 "_are_references" = true) (k15 : PySem.W.keepIn K (.ref f15) = true)
    {f16 : Addr} {od16 an16 : Option Addr} {sl16 : Array (Option Value)} {oc16 kV16 dc16 pm16 cd16 ct16 : Value}
    (a16 : PySem.W.nsIn K mainGlobals "_is_probe" = some (some (.ref f16))) (l16 : K.lookup f16 = some ⟨oc16, od16, .func (PySem.W.fnOf "_is_probe" "_is_probe" (defArgs s__is_probe) (defBody s__is_probe) (defScope s__is_probe) .none kV16 dc16 pm16 an16 cd16 ct16), sl16⟩)
    (c16 : PySem.W.codeIn K cd16 "_is_probe" = true) (k16 : PySem.W.keepIn K (.ref f16) = true)
    {f17 : Addr} {od17 an17 : Option Addr} {sl17 : Array (Option Value)} {oc17 kV17 dc17 pm17 cd17 ct17 : Value}
    (a17 : PySem.W.nsIn K mainGlobals "_are_probes" = some (some (.ref f17))) (l17 : K.lookup f17 = some ⟨oc17, od17, .func (PySem.W.fnOf "_are_probes" "_are_probes" (defArgs s__are_probes) (defBody s__are_probes) (defScope s__are_probes) .none kV17 dc17 pm17 an17 cd17 ct17), sl17⟩)
    (c17 : PySem.W.codeIn K cd17 "_are_probes" = true) (k17 : PySem.W.keepIn K (.ref f17) = true)
    {f18 : Addr} {od18 an18 : Option Addr} {sl18 : Array (Option Value)} {oc18 kV18 dc18 pm18 cd18 ct18 : Value}
    (a18 : PySem.W.nsIn K mainGlobals "_are_settings" = some (some (.ref f18))) (l18 : K.lookup f18 = some ⟨oc18, od18, .func (PySem.W.fnOf "_are_settings" "_are_settings" (defArgs s__are_settings) (defBody s__are_settings) (defScope s__are_settings) .none kV18 dc18 pm18 an18 cd18 ct18), sl18⟩)
    (c18 : PySem.W.codeIn K cd18 "_are_settings" = true) (k18 : PySem.W.keepIn K (.ref f18) = true)
    {f19 : Addr} {od19 an19 : Option Addr} {sl19 : Array (Option Value)} {oc19 kV19 dc19 pm19 cd19 ct19 : Value}
    (a19 : PySem.W.nsIn K mainGlobals "first_wrong" = some (some (.ref f19))) (l19 : K.lookup f19 = some ⟨oc19, od19, .func (PySem.W.fnOf "first_wrong" "first_wrong" (defArgs s_first_wrong) (defBody s_first_wrong) (defScope s_first_wrong) .none kV19 dc19 pm19 an19 cd19 ct19), sl19⟩)
    (c19 : PySem.W.codeIn K cd19 "first_wrong" = true) (k19 : PySem.W.keepIn K (.ref f19) = true)
    {f20 : Addr} {od20 an20 : Option Addr} {sl20 : Array (Option Value)} {oc20 kV20 dc20 pm20 cd20 ct20 : Value}
    (a20 : PySem.W.nsIn K mainGlobals "_law_deck" = some (some (.ref f20))) (l20 : K.lookup f20 = some ⟨oc20, od20, .func (PySem.W.fnOf "_law_deck" "_law_deck" (defArgs s_deck) (defBody s_deck) (defScope s_deck) .none kV20 dc20 pm20 an20 cd20 ct20), sl20⟩)
    (c20 : PySem.W.codeIn K cd20 "_law_deck" = true) (k20 : PySem.W.keepIn K (.ref f20) = true)
    {f21 : Addr} {od21 an21 : Option Addr} {sl21 : Array (Option Value)} {oc21 kV21 dc21 pm21 cd21 ct21 : Value}
    (a21 : PySem.W.nsIn K mainGlobals "_law_draw" = some (some (.ref f21))) (l21 : K.lookup f21 = some ⟨oc21, od21, .func (PySem.W.fnOf "_law_draw" "_law_draw" (defArgs s_draw) (defBody s_draw) (defScope s_draw) .none kV21 dc21 pm21 an21 cd21 ct21), sl21⟩)
    (c21 : PySem.W.codeIn K cd21 "_law_draw" = true) (k21 : PySem.W.keepIn K (.ref f21) = true)
    {f22 : Addr} {od22 an22 : Option Addr} {sl22 : Array (Option Value)} {oc22 kV22 dc22 pm22 cd22 ct22 : Value}
    (a22 : PySem.W.nsIn K mainGlobals "_law_pick" = some (some (.ref f22))) (l22 : K.lookup f22 = some ⟨oc22, od22, .func (PySem.W.fnOf "_law_pick" "_law_pick" (defArgs s_pick) (defBody s_pick) (defScope s_pick) .none kV22 dc22 pm22 an22 cd22 ct22), sl22⟩)
    (c22 : PySem.W.codeIn K cd22 "_law_pick" = true) (k22 : PySem.W.keepIn K (.ref f22) = true)
    {f23 : Addr} {od23 an23 : Option Addr} {sl23 : Array (Option Value)} {oc23 kV23 dc23 pm23 cd23 ct23 : Value}
    (a23 : PySem.W.nsIn K mainGlobals "_law_names" = some (some (.ref f23))) (l23 : K.lookup f23 = some ⟨oc23, od23, .func (PySem.W.fnOf "_law_names" "_law_names" (defArgs s_names) (defBody s_names) (defScope s_names) .none kV23 dc23 pm23 an23 cd23 ct23), sl23⟩)
    (c23 : PySem.W.codeIn K cd23 "_law_names" = true) (k23 : PySem.W.keepIn K (.ref f23) = true)
    {f24 : Addr} {od24 an24 : Option Addr} {sl24 : Array (Option Value)} {oc24 kV24 dc24 pm24 cd24 ct24 : Value}
    (a24 : PySem.W.nsIn K mainGlobals "_law_table" = some (some (.ref f24))) (l24 : K.lookup f24 = some ⟨oc24, od24, .func (PySem.W.fnOf "_law_table" "_law_table" (defArgs s_table) (defBody s_table) (defScope s_table) .none kV24 dc24 pm24 an24 cd24 ct24), sl24⟩)
    (c24 : PySem.W.codeIn K cd24 "_law_table" = true) (k24 : PySem.W.keepIn K (.ref f24) = true)
    {f25 : Addr} {od25 an25 : Option Addr} {sl25 : Array (Option Value)} {oc25 kV25 dc25 pm25 cd25 ct25 : Value}
    (a25 : PySem.W.nsIn K mainGlobals "_law_tables" = some (some (.ref f25))) (l25 : K.lookup f25 = some ⟨oc25, od25, .func (PySem.W.fnOf "_law_tables" "_law_tables" (defArgs s_tables) (defBody s_tables) (defScope s_tables) .none kV25 dc25 pm25 an25 cd25 ct25), sl25⟩)
    (c25 : PySem.W.codeIn K cd25 "_law_tables" = true) (k25 : PySem.W.keepIn K (.ref f25) = true)
    {f26 : Addr} {od26 an26 : Option Addr} {sl26 : Array (Option Value)} {oc26 kV26 dc26 pm26 cd26 ct26 : Value}
    (a26 : PySem.W.nsIn K mainGlobals "_law_integer" = some (some (.ref f26))) (l26 : K.lookup f26 = some ⟨oc26, od26, .func (PySem.W.fnOf "_law_integer" "_law_integer" (defArgs s_integer) (defBody s_integer) (defScope s_integer) .none kV26 dc26 pm26 an26 cd26 ct26), sl26⟩)
    (c26 : PySem.W.codeIn K cd26 "_law_integer" = true) (k26 : PySem.W.keepIn K (.ref f26) = true)
    {f27 : Addr} {od27 an27 : Option Addr} {sl27 : Array (Option Value)} {oc27 kV27 dc27 pm27 cd27 ct27 : Value}
    (a27 : PySem.W.nsIn K mainGlobals "_law_condition" = some (some (.ref f27))) (l27 : K.lookup f27 = some ⟨oc27, od27, .func (PySem.W.fnOf "_law_condition" "_law_condition" (defArgs s_condition) (defBody s_condition) (defScope s_condition) .none kV27 dc27 pm27 an27 cd27 ct27), sl27⟩)
    (c27 : PySem.W.codeIn K cd27 "_law_condition" = true) (k27 : PySem.W.keepIn K (.ref f27) = true)
    {f28 : Addr} {od28 an28 : Option Addr} {sl28 : Array (Option Value)} {oc28 kV28 dc28 pm28 cd28 ct28 : Value}
    (a28 : PySem.W.nsIn K mainGlobals "_law_probe" = some (some (.ref f28))) (l28 : K.lookup f28 = some ⟨oc28, od28, .func (PySem.W.fnOf "_law_probe" "_law_probe" (defArgs s_probe) (defBody s_probe) (defScope s_probe) .none kV28 dc28 pm28 an28 cd28 ct28), sl28⟩)
    (c28 : PySem.W.codeIn K cd28 "_law_probe" = true) (k28 : PySem.W.keepIn K (.ref f28) = true)
    {f29 : Addr} {od29 an29 : Option Addr} {sl29 : Array (Option Value)} {oc29 kV29 dc29 pm29 cd29 ct29 : Value}
    (a29 : PySem.W.nsIn K mainGlobals "_law_uses" = some (some (.ref f29))) (l29 : K.lookup f29 = some ⟨oc29, od29, .func (PySem.W.fnOf "_law_uses" "_law_uses" (defArgs s_uses) (defBody s_uses) (defScope s_uses) .none kV29 dc29 pm29 an29 cd29 ct29), sl29⟩)
    (c29 : PySem.W.codeIn K cd29 "_law_uses" = true) (k29 : PySem.W.keepIn K (.ref f29) = true)
    {f30 : Addr} {od30 an30 : Option Addr} {sl30 : Array (Option Value)} {oc30 kV30 dc30 pm30 cd30 ct30 : Value}
    (a30 : PySem.W.nsIn K mainGlobals "_law_settings" = some (some (.ref f30))) (l30 : K.lookup f30 = some ⟨oc30, od30, .func (PySem.W.fnOf "_law_settings" "_law_settings" (defArgs s_settings) (defBody s_settings) (defScope s_settings) .none kV30 dc30 pm30 an30 cd30 ct30), sl30⟩)
    (c30 : PySem.W.codeIn K cd30 "_law_settings" = true) (k30 : PySem.W.keepIn K (.ref f30) = true)
    {f31 : Addr} {od31 an31 : Option Addr} {sl31 : Array (Option Value)} {oc31 kV31 dc31 pm31 cd31 ct31 : Value}
    (a31 : PySem.W.nsIn K mainGlobals "_law_parts" = some (some (.ref f31))) (l31 : K.lookup f31 = some ⟨oc31, od31, .func (PySem.W.fnOf "_law_parts" "_law_parts" (defArgs s_parts) (defBody s_parts) (defScope s_parts) .none kV31 dc31 pm31 an31 cd31 ct31), sl31⟩)
    (c31 : PySem.W.codeIn K cd31 "_law_parts" = true) (k31 : PySem.W.keepIn K (.ref f31) = true)
    {f32 : Addr} {od32 an32 : Option Addr} {sl32 : Array (Option Value)} {oc32 kV32 dc32 pm32 cd32 ct32 : Value}
    (a32 : PySem.W.nsIn K mainGlobals "_law_schema" = some (some (.ref f32))) (l32 : K.lookup f32 = some ⟨oc32, od32, .func (PySem.W.fnOf "_law_schema" "_law_schema" (defArgs s_schema) (defBody s_schema) (defScope s_schema) .none kV32 dc32 pm32 an32 cd32 ct32), sl32⟩)
    (c32 : PySem.W.codeIn K cd32 "_law_schema" = true) (k32 : PySem.W.keepIn K (.ref f32) = true)
    {f33 : Addr} {od33 an33 : Option Addr} {sl33 : Array (Option Value)} {oc33 kV33 dc33 pm33 cd33 ct33 : Value}
    (a33 : PySem.W.nsIn K mainGlobals "_law_made" = some (some (.ref f33))) (l33 : K.lookup f33 = some ⟨oc33, od33, .func (PySem.W.fnOf "_law_made" "_law_made" (defArgs s_made) (defBody s_made) (defScope s_made) .none kV33 dc33 pm33 an33 cd33 ct33), sl33⟩)
    (c33 : PySem.W.codeIn K cd33 "_law_made" = true) (k33 : PySem.W.keepIn K (.ref f33) = true)
    {f34 : Addr} {od34 an34 : Option Addr} {sl34 : Array (Option Value)} {oc34 kV34 dc34 pm34 cd34 ct34 : Value}
    (a34 : PySem.W.nsIn K mainGlobals "_law_read_by" = some (some (.ref f34))) (l34 : K.lookup f34 = some ⟨oc34, od34, .func (PySem.W.fnOf "_law_read_by" "_law_read_by" (defArgs s_read_by) (defBody s_read_by) (defScope s_read_by) .none kV34 dc34 pm34 an34 cd34 ct34), sl34⟩)
    (c34 : PySem.W.codeIn K cd34 "_law_read_by" = true) (k34 : PySem.W.keepIn K (.ref f34) = true)
    {f35 : Addr} {od35 an35 : Option Addr} {sl35 : Array (Option Value)} {oc35 kV35 dc35 pm35 cd35 ct35 : Value}
    (a35 : PySem.W.nsIn K mainGlobals "_law_right" = some (some (.ref f35))) (l35 : K.lookup f35 = some ⟨oc35, od35, .func (PySem.W.fnOf "_law_right" "_law_right" (defArgs s_right) (defBody s_right) (defScope s_right) .none kV35 dc35 pm35 an35 cd35 ct35), sl35⟩)
    (c35 : PySem.W.codeIn K cd35 "_law_right" = true) (k35 : PySem.W.keepIn K (.ref f35) = true)
    {f36 : Addr} {od36 an36 : Option Addr} {sl36 : Array (Option Value)} {oc36 kV36 dc36 pm36 cd36 ct36 : Value}
    (a36 : PySem.W.nsIn K mainGlobals "law" = some (some (.ref f36))) (l36 : K.lookup f36 = some ⟨oc36, od36, .func (PySem.W.fnOf "law" "law" (defArgs s_law) (defBody s_law) (defScope s_law) .none kV36 dc36 pm36 an36 cd36 ct36), sl36⟩)
    (c36 : PySem.W.codeIn K cd36 "law" = true) (k36 : PySem.W.keepIn K (.ref f36) = true)
    (z_isinstance : PySem.W.nsIn K mainGlobals "isinstance" = some none)
    (z_str : PySem.W.nsIn K mainGlobals "str" = some none)
    (z_tuple : PySem.W.nsIn K mainGlobals "tuple" = some none)
    (z_len : PySem.W.nsIn K mainGlobals "len" = some none)
    (z_all : PySem.W.nsIn K mainGlobals "all" = some none)
    (z_zip : PySem.W.nsIn K mainGlobals "zip" = some none)
    (z_set : PySem.W.nsIn K mainGlobals "set" = some none)
    (z_enumerate : PySem.W.nsIn K mainGlobals "enumerate" = some none)
    (z_sorted : PySem.W.nsIn K mainGlobals "sorted" = some none)
    (z_list : PySem.W.nsIn K mainGlobals "list" = some none)
    (z_range : PySem.W.nsIn K mainGlobals "range" = some none)
    (z_repr : PySem.W.nsIn K mainGlobals "repr" = some none)
    (z_int : PySem.W.nsIn K mainGlobals "int" = some none)
    (z_bool : PySem.W.nsIn K mainGlobals "bool" = some none)
    (z_dict : PySem.W.nsIn K mainGlobals "dict" = some none) :
    ∃ fd : FuncData, (∀ (s : Shared) (v : Value), BindsTo s fd ⟨[v], []⟩ [("_law_script", v)]) ∧
      ∀ g0 : Heap, K.In g0 → g0.Ns mainGlobals mg → GOk l.prog w K mg g0 CX0 10 fa fd ["_law_script"] (spLaw K) := by
  have e := hfa.symm.trans (PySem.W.mg_of X GG a36)
  cases e
  have wL := PySem.W.mg_of X GG vL
  have gC := PySem.W.mg_of X GG aC
  have gS := PySem.W.mg_of X GG aS
  have F1 := fun_mk (st := s_is_name) l1 c1 k1
  have b1 := F1.binds (ps := ["thing"]) fun _ _ _ _ _ _ us hl => match us, hl with | [_], _ => rfl
  have F2 := fun_mk (st := s_is_tuple) l2 c2 k2
  have b2 := F2.binds (ps := ["thing", "size"]) fun _ _ _ _ _ _ us hl => match us, hl with | [_, _], _ => rfl
  have F3 := fun_mk (st := s_is_ascending) l3 c3 k3
  have b3 := F3.binds (ps := ["things"]) fun _ _ _ _ _ _ us hl => match us, hl with | [_], _ => rfl
  have F4 := fun_mk (st := s__are_columns) l4 c4 k4
  have b4 := F4.binds (ps := ["thing"]) fun _ _ _ _ _ _ us hl => match us, hl with | [_], _ => rfl
  have F5 := fun_mk (st := s__are_some) l5 c5 k5
  have b5 := F5.binds (ps := ["thing", "columns"]) fun _ _ _ _ _ _ us hl => match us, hl with | [_, _], _ => rfl
  have F6 := fun_mk (st := s_is_table) l6 c6 k6
  have b6 := F6.binds (ps := ["thing"]) fun _ _ _ _ _ _ us hl => match us, hl with | [_], _ => rfl
  have F7 := fun_mk (st := s_is_integer) l7 c7 k7
  have b7 := F7.binds (ps := ["thing"]) fun _ _ _ _ _ _ us hl => match us, hl with | [_], _ => rfl
  have F8 := fun_mk (st := s__are_few) l8 c8 k8
  have b8 := F8.binds (ps := ["thing", "most"]) fun _ _ _ _ _ _ us hl => match us, hl with | [_, _], _ => rfl
  have F9 := fun_mk (st := s__is_condition) l9 c9 k9
  have b9 := F9.binds (ps := ["cells", "thing"]) fun _ _ _ _ _ _ us hl => match us, hl with | [_, _], _ => rfl
  have F10 := fun_mk (st := s__is_own) l10 c10 k10
  have b10 := F10.binds (ps := ["columns", "thing"]) fun _ _ _ _ _ _ us hl => match us, hl with | [_, _], _ => rfl
  have F11 := fun_mk (st := s__is_link) l11 c11 k11
  have b11 := F11.binds (ps := ["columns", "cells", "thing"]) fun _ _ _ _ _ _ us hl => match us, hl with | [_, _, _], _ => rfl
  have F12 := fun_mk (st := s__is_setting) l12 c12 k12
  have b12 := F12.binds (ps := ["columns", "sources", "thing"]) fun _ _ _ _ _ _ us hl => match us, hl with | [_, _, _], _ => rfl
  have F13 := fun_mk (st := s_cells_of) l13 c13 k13
  have b13 := F13.binds (ps := ["schema", "references"]) fun _ _ _ _ _ _ us hl => match us, hl with | [_, _], _ => rfl
  have F14 := fun_mk (st := s__busy_tables) l14 c14 k14
  have b14 := F14.binds (ps := ["table", "references"]) fun _ _ _ _ _ _ us hl => match us, hl with | [_, _], _ => rfl
  have F15 := fun_mk (st := s__are_references) l15 c15 k15
  have b15 := F15.binds (ps := ["schema", "kind", "table", "thing"]) fun _ _ _ _ _ _ us hl => match us, hl with | [_, _, _, _], _ => rfl
  have F16 := fun_mk (st := s__is_probe) l16 c16 k16
  have b16 := F16.binds (ps := ["schema", "cells", "busy", "thing"]) fun _ _ _ _ _ _ us hl => match us, hl with | [_, _, _, _], _ => rfl
  have F17 := fun_mk (st := s__are_probes) l17 c17 k17
  have b17 := F17.binds (ps := ["schema", "cells", "busy", "thing"]) fun _ _ _ _ _ _ us hl => match us, hl with | [_, _, _, _], _ => rfl
  have F18 := fun_mk (st := s__are_settings) l18 c18 k18
  have b18 := F18.binds (ps := ["table", "kind", "references", "cells", "thing"]) fun _ _ _ _ _ _ us hl => match us, hl with | [_, _, _, _, _], _ => rfl
  have F19 := fun_mk (st := s_first_wrong) l19 c19 k19
  have b19 := F19.binds (ps := ["schema", "parts"]) fun _ _ _ _ _ _ us hl => match us, hl with | [_, _], _ => rfl
  have F20 := fun_mk (st := s_deck) l20 c20 k20
  have b20 := F20.binds (ps := ["_law_script"]) fun _ _ _ _ _ _ us hl => match us, hl with | [_], _ => rfl
  have F21 := fun_mk (st := s_draw) l21 c21 k21
  have b21 := F21.binds (ps := ["_law_deck_here", "_law_bound"]) fun _ _ _ _ _ _ us hl => match us, hl with | [_, _], _ => rfl
  have F22 := fun_mk (st := s_pick) l22 c22 k22
  have b22 := F22.binds (ps := ["_law_deck_here", "_law_some"]) fun _ _ _ _ _ _ us hl => match us, hl with | [_, _], _ => rfl
  have F23 := fun_mk (st := s_names) l23 c23 k23
  have b23 := F23.binds (ps := ["_law_deck_here", "_law_many"]) fun _ _ _ _ _ _ us hl => match us, hl with | [_, _], _ => rfl
  have F24 := fun_mk (st := s_table) l24 c24 k24
  have b24 := F24.binds (ps := ["_law_deck_here", "_law_name", "_law_may_have_keys"]) fun _ _ _ _ _ _ us hl => match us, hl with | [_, _, _], _ => rfl
  have F25 := fun_mk (st := s_tables) l25 c25 k25
  have b25 := F25.binds (ps := ["_law_deck_here"]) fun _ _ _ _ _ _ us hl => match us, hl with | [_], _ => rfl
  have F26 := fun_mk (st := s_integer) l26 c26 k26
  have b26 := F26.binds (ps := ["_law_deck_here"]) fun _ _ _ _ _ _ us hl => match us, hl with | [_], _ => rfl
  have F27 := fun_mk (st := s_condition) l27 c27 k27
  have b27 := F27.binds (ps := ["_law_deck_here", "_law_uses_here"]) fun _ _ _ _ _ _ us hl => match us, hl with | [_, _], _ => rfl
  have F28 := fun_mk (st := s_probe) l28 c28 k28
  have b28 := F28.binds (ps := ["_law_deck_here", "_law_table_here", "_law_uses_here"]) fun _ _ _ _ _ _ us hl => match us, hl with | [_, _, _], _ => rfl
  have F29 := fun_mk (st := s_uses) l29 c29 k29
  have b29 := F29.binds (ps := ["_law_tables_here", "_law_pairs"]) fun _ _ _ _ _ _ us hl => match us, hl with | [_, _], _ => rfl
  have F30 := fun_mk (st := s_settings) l30 c30 k30
  have b30 := F30.binds (ps := ["_law_deck_here", "_law_kind_here", "_law_columns", "_law_uses_here", "_law_pairs"]) fun _ _ _ _ _ _ us hl => match us, hl with | [_, _, _, _, _], _ => rfl
  have F31 := fun_mk (st := s_parts) l31 c31 k31
  have b31 := F31.binds (ps := ["_law_deck_here", "_law_tables_here", "_law_most"]) fun _ _ _ _ _ _ us hl => match us, hl with | [_, _, _], _ => rfl
  have F32 := fun_mk (st := s_schema) l32 c32 k32
  have b32 := F32.binds (ps := ["_law_tables_here"]) fun _ _ _ _ _ _ us hl => match us, hl with | [_], _ => rfl
  have F33 := fun_mk (st := s_made) l33 c33 k33
  have b33 := F33.binds (ps := ["_law_catalog", "_law_it"]) fun _ _ _ _ _ _ us hl => match us, hl with | [_, _], _ => rfl
  have F34 := fun_mk (st := s_read_by) l34 c34 k34
  have b34 := F34.binds (ps := ["_law_it", "_law_alias_here"]) fun _ _ _ _ _ _ us hl => match us, hl with | [_, _], _ => rfl
  have F35 := fun_mk (st := s_right) l35 c35 k35
  have b35 := F35.binds (ps := ["_law_made_here", "_law_it"]) fun _ _ _ _ _ _ us hl => match us, hl with | [_, _], _ => rfl
  have FI := fun_mk (st := s_Schema___init__) lI cI kI
  have Fin := fun_mk (st := s_Schema___contains__) lin cin kin
  have Fget := fun_mk (st := s_Schema___getitem__) lget cget kget
  have FSI := fun_mk (st := s_Statement___init__) lSI cSI kSI
  have Frd := fun_mk (st := s_Statement_reads) lrd crd krd
  have Fcnd := fun_mk (st := s_Statement_conditions) lcnd ccnd kcnd
  have Fprb := fun_mk (st := s_Statement_probes) lprb cprb kprb
  have Fstg := fun_mk (st := s_Statement_settings) lstg cstg kstg
  have Ftld := fun_mk (st := s_Statement_told) ltld ctld ktld
  have Fprt := fun_mk (st := s_Statement_parts) lprt cprt kprt
  have bin := Fin.binds (ps := ["self", "x"]) fun _ _ _ _ _ _ us hl => match us, hl with | [_, _], _ => rfl
  have bget := Fget.binds (ps := ["self", "at"]) fun _ _ _ _ _ _ us hl => match us, hl with | [_, _], _ => rfl
  have brd := Frd.binds (ps := ["self", "alias"]) fun _ _ _ _ _ _ us hl => match us, hl with | [_, _], _ => rfl
  have bcnd := Fcnd.binds (ps := ["self"]) fun _ _ _ _ _ _ us hl => match us, hl with | [_], _ => rfl
  have bprb := Fprb.binds (ps := ["self"]) fun _ _ _ _ _ _ us hl => match us, hl with | [_], _ => rfl
  have bstg := Fstg.binds (ps := ["self"]) fun _ _ _ _ _ _ us hl => match us, hl with | [_], _ => rfl
  have btld := Ftld.binds (ps := ["self"]) fun _ _ _ _ _ _ us hl => match us, hl with | [_], _ => rfl
  have bprt := Fprt.binds (ps := ["self"]) fun _ _ _ _ _ _ us hl => match us, hl with | [_], _ => rfl
  have wKINDS := PySem.W.mg_of X GG vKINDS
  have eKINDS : ∀ H, SqT K H aKINDS (kinds.map V.str) := fun H => .inr ⟨_, _, nKINDS, lKINDS, rfl, rfl, (by show 3 ≤ sizeLine; decide), .cons ⟨_, rfl⟩ (.cons ⟨_, rfl⟩ (.cons ⟨_, rfl⟩ (.nil)))⟩
  have wWORDS := PySem.W.mg_of X GG vWORDS
  have eWORDS : ∀ H, SqT K H aWORDS (words2.map V.str) := fun H => .inr ⟨_, _, nWORDS, lWORDS, rfl, rfl, (by show 2 ≤ sizeLine; decide), .cons ⟨_, rfl⟩ (.cons ⟨_, rfl⟩ (.nil))⟩
  have wSIGNS := PySem.W.mg_of X GG vSIGNS
  have eSIGNS : ∀ H, SqT K H aSIGNS (signs.map V.str) := fun H => .inr ⟨_, _, nSIGNS, lSIGNS, rfl, rfl, (by show 3 ≤ sizeLine; decide), .cons ⟨_, rfl⟩ (.cons ⟨_, rfl⟩ (.cons ⟨_, rfl⟩ (.nil)))⟩
  have wOWN_SIGNS := PySem.W.mg_of X GG vOWN_SIGNS
  have eOWN_SIGNS : ∀ H, SqT K H aOWN_SIGNS (opt2.map V.str) := fun H => .inr ⟨_, _, nOWN_SIGNS, lOWN_SIGNS, rfl, rfl, (by show 2 ≤ sizeLine; decide), .cons ⟨_, rfl⟩ (.cons ⟨_, rfl⟩ (.nil))⟩
  have wLINK_SIGNS := PySem.W.mg_of X GG vLINK_SIGNS
  have eLINK_SIGNS : ∀ H, SqT K H aLINK_SIGNS (opt3.map V.str) := fun H => .inr ⟨_, _, nLINK_SIGNS, lLINK_SIGNS, rfl, rfl, (by show 3 ≤ sizeLine; decide), .cons ⟨_, rfl⟩ (.cons ⟨_, rfl⟩ (.cons ⟨_, rfl⟩ (.nil)))⟩
  have wMOST_COLUMNS := PySem.W.mg_of X GG vMOST_COLUMNS
  have wMOST_REFERENCES := PySem.W.mg_of X GG vMOST_REFERENCES
  have wMOST_CONDITIONS := PySem.W.mg_of X GG vMOST_CONDITIONS
  have wMOST_PROBES := PySem.W.mg_of X GG vMOST_PROBES
  have wMOST_OWN := PySem.W.mg_of X GG vMOST_OWN
  have y_isinstance := PySem.W.mg_none_of X GG z_isinstance
  have y_str := PySem.W.mg_none_of X GG z_str
  have y_tuple := PySem.W.mg_none_of X GG z_tuple
  have y_len := PySem.W.mg_none_of X GG z_len
  have y_all := PySem.W.mg_none_of X GG z_all
  have y_zip := PySem.W.mg_none_of X GG z_zip
  have y_set := PySem.W.mg_none_of X GG z_set
  have y_enumerate := PySem.W.mg_none_of X GG z_enumerate
  have y_sorted := PySem.W.mg_none_of X GG z_sorted
  have y_list := PySem.W.mg_none_of X GG z_list
  have y_range := PySem.W.mg_none_of X GG z_range
  have y_repr := PySem.W.mg_none_of X GG z_repr
  have y_int := PySem.W.mg_none_of X GG z_int
  have y_bool := PySem.W.mg_none_of X GG z_bool
  have y_dict := PySem.W.mg_none_of X GG z_dict
  have FK : FunD K "__init__" "Statement.__init__" (defArgs s_Statement___init__) (defBody s_Statement___init__) (defScope s_Statement___init__) [] [("conditions", V.ref e0)] fSI _ :=
    funK_mk lSI cSI kSI (by intro q hq; obtain rfl := List.mem_singleton.mp hq; exact ⟨_, dk0, rfl⟩)
  have kbS : KBn K _ stPs 5 stKs gKw gKw := kb_kw FK (ms := []) (by simp) (fun q h => by cases h) (fun a b => a.append b) fun _ _ _ _ _ _ us mv ws h1 h2 h3 => match us, h1, mv, h2, ws, h3 with | [_, _, _, _, _], _, [], .nil, [_, _, _, _], _ => rfl
  have kbR : KBn K _ ["self", "alias"] 1 ["alias"] gKw gKw := kb_of Frd (fun a b => a.append b) fun _ _ _ _ _ _ us ws h1 h2 => match us, h1, ws, h2 with | [_], _, [_], _ => rfl
  refine ⟨PySem.W.fnOf "law" "law" (defArgs s_law) (defBody s_law) (defScope s_law) .none kV36 dc36 pm36 an36 cd36 ct36, fun s v => .of_eq rfl, fun g0 _ _ => ?_⟩
  have tx : Txt K C := ⟨⟨pgC, hdC, poC, saC⟩, nN, nT⟩
  have txS : TxtS K S := ⟨⟨pgS, hdS, poS, saS⟩, nSs, nSp⟩
  have C1 : CalF l.prog w K mg g0 "is_name" 1 ["thing"] (spName) := ⟨_, _, ok_name F1 y_isinstance y_str y_len y_all wL, b1, PySem.W.mg_of X GG a1, k1⟩
  have C2 : CalF l.prog w K mg g0 "is_tuple" 1 ["thing", "size"] (spTuple) := ⟨_, _, ok_tuple F2 y_isinstance y_tuple y_len, b2, PySem.W.mg_of X GG a2, k2⟩
  have C3 : CalF l.prog w K mg g0 "is_ascending" 1 ["things"] (spAsc) := ⟨_, _, ok_asc F3 y_zip y_all, b3, PySem.W.mg_of X GG a3, k3⟩
  have C4 : CalF l.prog w K mg g0 "_are_columns" 2 ["thing"] (spCols) := ⟨_, _, ok_cols F4 C1 y_isinstance y_tuple y_len y_all y_set wMOST_COLUMNS, b4, PySem.W.mg_of X GG a4, k4⟩
  have C5 : CalF l.prog w K mg g0 "_are_some" 2 ["thing", "columns"] (spSome) := ⟨_, _, ok_some F5 C3 y_isinstance y_tuple y_all, b5, PySem.W.mg_of X GG a5, k5⟩
  have C6 : CalF l.prog w K mg g0 "is_table" 3 ["thing"] (spTable) := ⟨_, _, ok_table F6 C1 C2 C4 C5, b6, PySem.W.mg_of X GG a6, k6⟩
  have C7 : CalF l.prog w K mg g0 "is_integer" 1 ["thing"] (spInt) := ⟨_, _, ok_int F7 y_isinstance y_int y_bool, b7, PySem.W.mg_of X GG a7, k7⟩
  have C8 : CalF l.prog w K mg g0 "_are_few" 1 ["thing", "most"] (spFew) := ⟨_, _, ok_few F8 y_isinstance y_tuple y_len, b8, PySem.W.mg_of X GG a8, k8⟩
  have C9 : CalF l.prog w K mg g0 "_is_condition" 2 ["cells", "thing"] (spCond) := ⟨_, _, ok_cond F9 C2 C7 wSIGNS eSIGNS, b9, PySem.W.mg_of X GG a9, k9⟩
  have C10 : CalF l.prog w K mg g0 "_is_own" 2 ["columns", "thing"] (spOwn) := ⟨_, _, ok_own F10 C2 C7 wOWN_SIGNS eOWN_SIGNS, b10, PySem.W.mg_of X GG a10, k10⟩
  have C11 : CalF l.prog w K mg g0 "_is_link" 2 ["columns", "cells", "thing"] (spLink) := ⟨_, _, ok_link F11 C2 C7 wLINK_SIGNS eLINK_SIGNS, b11, PySem.W.mg_of X GG a11, k11⟩
  have C12 : CalF l.prog w K mg g0 "_is_setting" 2 ["columns", "sources", "thing"] (spSetting (K := K)) := ⟨_, _, ok_setting F12 C2 C7, b12, PySem.W.mg_of X GG a12, k12⟩
  have FinR : FnR l.prog w K mg g0 CX0 1 fin (spIn C) := raw0 (ok_in Fin tx y_isinstance y_str) bin
  have FgetR : FnR l.prog w K mg g0 CX0 2 fget (spGet0 C) := raw0 (ok_get0 Fget tx ain (beq_iff_eq.mp iin) FinR) bget
  have SC : Sch l.prog w K mg g0 C := ⟨⟨_, ain, beq_iff_eq.mp iin, FinR⟩, ⟨_, aget, iget, iget2, FgetR⟩⟩
  have C13 : CalF l.prog w K mg g0 "cells_of" 4 ["schema", "references"] (spCells C) := ⟨_, _, ok_cells F13 tx SC y_tuple, b13, PySem.W.mg_of X GG a13, k13⟩
  have C14 : CalF l.prog w K mg g0 "_busy_tables" 1 ["table", "references"] (spBusy) := ⟨_, _, ok_busy F14, b14, PySem.W.mg_of X GG a14, k14⟩
  have C15 : CalF l.prog w K mg g0 "_are_references" 2 ["schema", "kind", "table", "thing"] (spRefs C) := ⟨_, _, ok_refs F15 SC C1 C2 C8 wMOST_REFERENCES y_all y_len y_set, b15, PySem.W.mg_of X GG a15, k15⟩
  have C16 : CalF l.prog w K mg g0 "_is_probe" 4 ["schema", "cells", "busy", "thing"] (spProb C) := ⟨_, _, ok_prob F16 SC C2 C8 C10 C11 wMOST_OWN wWORDS eWORDS y_all, b16, PySem.W.mg_of X GG a16, k16⟩
  have C17 : CalF l.prog w K mg g0 "_are_probes" 5 ["schema", "cells", "busy", "thing"] (spProbs C) := ⟨_, _, ok_probs F17 C8 C16 wMOST_PROBES y_all y_len y_set, b17, PySem.W.mg_of X GG a17, k17⟩
  have C18 : CalF l.prog w K mg g0 "_are_settings" 3 ["table", "kind", "references", "cells", "thing"] (spSets) := ⟨_, _, ok_sets F18 C12 C3 y_isinstance y_tuple y_all, b18, PySem.W.mg_of X GG a18, k18⟩
  have C19 : CalF l.prog w K mg g0 "first_wrong" 6 ["schema", "parts"] (spFirst C) := ⟨_, _, ok_first F19 SC C15 C13 C8 C9 C14 C17 C18 wMOST_CONDITIONS wKINDS eKINDS y_isinstance y_tuple y_all, b19, PySem.W.mg_of X GG a19, k19⟩
  have S_mk : L2.Mk K C fI := ⟨mkC, aI, iI, kCC⟩
  have hb : ∀ (kV doc pm : Value) (an : Option Addr) (cdv ct : Value) (us rest : List Value), us.length = 1 →
      bindArgs (PySem.W.fnOf "__init__" "Schema.__init__" (defArgs s_Schema___init__) (defBody s_Schema___init__) (defScope s_Schema___init__) .none kV doc pm an cdv ct) ⟨us ++ rest, []⟩ = (newTuple rest >>= fun t => pure ((["self"] : List Str).zip us ++ [(("tables" : Str), t)])) := fun kV doc pm an cdv ct us rest hl => StX.bind_star1 (p1 := "self") (pv := "tables") (B := fun vs => bindArgs (PySem.W.fnOf "__init__" "Schema.__init__" (defArgs s_Schema___init__) (defBody s_Schema___init__) (defScope s_Schema___init__) .none kV doc pm an cdv ct) ⟨vs, []⟩) (fun _ => rfl) (fun _ _ _ => rfl) us rest hl
  have S_init : FnR l.prog w K mg g0 CX0 4 fI (spMk C) := ok_init FI tx C6 y_enumerate y_sorted y_tuple hb
  have T_mk : L2.Mk K S fSI := ⟨mkS, aSI, iSI, kCS⟩
  have T_init := ok_initS (base := g0) (P := l.prog) (w := w) (mg := mg) (C := C) FSI txS C19
  have PP : Props l.prog w K mg g0 S C := ⟨txS, ⟨_, _, _, ⟨pcnd, gcnd, tcnd, ⟨_, rcnd⟩⟩, ok_conds Fcnd txS, bcnd⟩, ⟨_, _, _, ⟨pprb, gprb, tprb, ⟨_, rprb⟩⟩, ok_prbs Fprb txS, bprb⟩, ⟨_, _, _, ⟨pstg, gstg, tstg, ⟨_, rstg⟩⟩, ok_stgs Fstg txS, bstg⟩, ⟨_, _, _, ⟨ptld, gtld, ttld, ⟨_, rtld⟩⟩, ok_told Ftld txS, btld⟩, ⟨_, _, _, ⟨pprt, gprt, tprt, ⟨_, rprt⟩⟩, ok_part Fprt txS, bprt⟩⟩
  have RS : RefS l.prog w K mg g0 S C := ⟨txS, ⟨_, _, _, ⟨pprt, gprt, tprt, ⟨_, rprt⟩⟩, ok_part Fprt txS, bprt⟩, ⟨_, _, ⟨ard, ird, krd⟩, ok_reads Frd PP y_tuple y_sorted, brd, kbR⟩⟩
  have C20 : Cal l.prog w K mg g0 "_law_deck" 1 ["_law_script"] (spDeck K) := ⟨_, _, ok_deck F20 y_list y_int, b20, PySem.W.mg_of X GG a20, k20⟩
  have C21 : Cal l.prog w K mg g0 "_law_draw" 1 ["_law_deck_here", "_law_bound"] (spDraw) := ⟨_, _, ok_draw F21 y_int, b21, PySem.W.mg_of X GG a21, k21⟩
  have C22 : Cal l.prog w K mg g0 "_law_pick" 2 ["_law_deck_here", "_law_some"] (spPick) := ⟨_, _, ok_pick F22 y_len C21, b22, PySem.W.mg_of X GG a22, k22⟩
  have C23 : Cal l.prog w K mg g0 "_law_names" 2 ["_law_deck_here", "_law_many"] (spNames) := ⟨_, _, ok_names F23 y_int y_len C21, b23, PySem.W.mg_of X GG a23, k23⟩
  have C24 : Cal l.prog w K mg g0 "_law_table" 3 ["_law_deck_here", "_law_name", "_law_may_have_keys"] (spTableL) := ⟨_, _, ok_tableL F24 y_range y_tuple y_sorted y_int C21 C23, b24, PySem.W.mg_of X GG a24, k24⟩
  have C25 : Cal l.prog w K mg g0 "_law_tables" 4 ["_law_deck_here"] (spTablesL) := ⟨_, _, ok_tablesL F25 y_range C23 C24, b25, PySem.W.mg_of X GG a25, k25⟩
  have C26 : Cal l.prog w K mg g0 "_law_integer" 2 ["_law_deck_here"] (spInteger) := ⟨_, _, ok_integer F26 C21, b26, PySem.W.mg_of X GG a26, k26⟩
  have C27 : Cal l.prog w K mg g0 "_law_condition" 3 ["_law_deck_here", "_law_uses_here"] (spCondition) := ⟨_, _, ok_condition F27 C21 C22 C26, b27, PySem.W.mg_of X GG a27, k27⟩
  have C28 : Cal l.prog w K mg g0 "_law_probe" 3 ["_law_deck_here", "_law_table_here", "_law_uses_here"] (spProbe) := ⟨_, _, ok_probe F28 y_range y_tuple C21 C22 C26, b28, PySem.W.mg_of X GG a28, k28⟩
  have C29 : Cal l.prog w K mg g0 "_law_uses" 1 ["_law_tables_here", "_law_pairs"] (spUses) := ⟨_, _, ok_uses F29 y_dict, b29, PySem.W.mg_of X GG a29, k29⟩
  have C30 : Cal l.prog w K mg g0 "_law_settings" 3 ["_law_deck_here", "_law_kind_here", "_law_columns", "_law_uses_here", "_law_pairs"] (spSettings) := ⟨_, _, ok_settings F30 y_list y_tuple y_sorted y_zip y_int C21 C22 C26, b30, PySem.W.mg_of X GG a30, k30⟩
  have C31 : Cal l.prog w K mg g0 "_law_parts" 4 ["_law_deck_here", "_law_tables_here", "_law_most"] (spParts) := ⟨_, _, ok_parts F31 y_range y_tuple C21 C22 C23 C29 C27 C28 C30, b31, PySem.W.mg_of X GG a31, k31⟩
  have C32 : Cal l.prog w K mg g0 "_law_schema" 6 ["_law_tables_here"] (spSchemaL C) := ⟨_, _, ok_schemaL F32 gC S_mk S_init, b32, PySem.W.mg_of X GG a32, k32⟩
  have C33 : Cal l.prog w K mg g0 "_law_made" 9 ["_law_catalog", "_law_it"] (spMadeL S C) := ⟨_, _, ok_madeL F33 gS T_mk T_init kbS, b33, PySem.W.mg_of X GG a33, k33⟩
  have C34 : Cal l.prog w K mg g0 "_law_read_by" 1 ["_law_it", "_law_alias_here"] (spReadBy) := ⟨_, _, ok_readBy F34 y_list y_tuple y_sorted y_set, b34, PySem.W.mg_of X GG a34, k34⟩
  have C35 : Cal l.prog w K mg g0 "_law_right" 5 ["_law_made_here", "_law_it"] (spRightL S C) := ⟨_, _, ok_rightL F35 RS C34 y_repr, b35, PySem.W.mg_of X GG a35, k35⟩
  exact ok_law (fun_mk (st := s_law) l36 c36 k36) y_range C20 C22 C25 C29 C31 C32 C33 C35
end K11

open PySem PySem.W PyProof.Rows in
set_option maxRecDepth 100000 in
set_option maxHeartbeats 0 in
theorem PySem.Challenge.cw_ownwake_k11_columns_that_are_read_holds : PySem.Challenge.rw_ownwake_k11_columns_that_are_read.Holds := by
  w_on; o_law; k_head; (case hw => w_witness2)
  k_fill
  refine Own.walkG (l := PySem.Challenge.rw_ownwake_k11_columns_that_are_read) (n := 63) (k := 10) (x := "_law_script") (sp := fun w => K11.spLaw _) rfl (by decide) rfl ⟨rfl, by decide, by decide⟩ (fun w h Y => PySem.W.kIn_of Y) ?F
    (fun _ _ a ns hl hO hS => ⟨a, ns, rfl, hS, hl, fun _ => rfl⟩)
  case F =>
    intro w mg fa h KX G hmg
    refine' K11.all_mk KX G hmg ?vL ?vMOST_COLUMNS ?vMOST_REFERENCES ?vMOST_CONDITIONS ?vMOST_PROBES ?vMOST_OWN ?vKINDS ?lKINDS ?vWORDS ?lWORDS ?vSIGNS ?lSIGNS ?vOWN_SIGNS ?lOWN_SIGNS ?vLINK_SIGNS ?lLINK_SIGNS ?aC ?pgC ?hdC ?poC ?saC ?mkC ?kCC ?nN ?nT ?aI ?iI ?lI ?cI ?kI ?ain ?iin ?lin ?cin ?kin ?aget ?iget ?lget ?cget ?kget ?iget2 ?aS ?pgS ?hdS ?poS ?saS ?mkS ?kCS ?nSs ?nSp ?aSI ?iSI ?lSI ?cSI ?kSI ?dk0 ?ard ?ird ?lrd ?crd ?krd ?pcnd ?gcnd ?tcnd ?rcnd ?lcnd ?ccnd ?kcnd ?pprb ?gprb ?tprb ?rprb ?lprb ?cprb ?kprb ?pstg ?gstg ?tstg ?rstg ?lstg ?cstg ?kstg ?ptld ?gtld ?ttld ?rtld ?ltld ?ctld ?ktld ?pprt ?gprt ?tprt ?rprt ?lprt ?cprt ?kprt ?a1 ?l1 ?c1 ?k1 ?a2 ?l2 ?c2 ?k2 ?a3 ?l3 ?c3 ?k3 ?a4 ?l4 ?c4 ?k4 ?a5 ?l5 ?c5 ?k5 ?a6 ?l6 ?c6 ?k6 ?a7 ?l7 ?c7 ?k7 ?a8 ?l8 ?c8 ?k8 ?a9 ?l9 ?c9 ?k9 ?a10 ?l10 ?c10 ?k10 ?a11 ?l11 ?c11 ?k11 ?a12 ?l12 ?c12 ?k12 ?a13 ?l13 ?c13 ?k13 ?a14 ?l14 ?c14 ?k14 ?a15 ?l15 ?c15 ?k15 ?a16 ?l16 ?c16 ?k16 ?a17 ?l17 ?c17 ?k17 ?a18 ?l18 ?c18 ?k18 ?a19 ?l19 ?c19 ?k19 ?a20 ?l20 ?c20 ?k20 ?a21 ?l21 ?c21 ?k21 ?a22 ?l22 ?c22 ?k22 ?a23 ?l23 ?c23 ?k23 ?a24 ?l24 ?c24 ?k24 ?a25 ?l25 ?c25 ?k25 ?a26 ?l26 ?c26 ?k26 ?a27 ?l27 ?c27 ?k27 ?a28 ?l28 ?c28 ?k28 ?a29 ?l29 ?c29 ?k29 ?a30 ?l30 ?c30 ?k30 ?a31 ?l31 ?c31 ?k31 ?a32 ?l32 ?c32 ?k32 ?a33 ?l33 ?c33 ?k33 ?a34 ?l34 ?c34 ?k34 ?a35 ?l35 ?c35 ?k35 ?a36 ?l36 ?c36 ?k36 ?z_isinstance ?z_str ?z_tuple ?z_len ?z_all ?z_zip ?z_set ?z_enumerate ?z_sorted ?z_list ?z_range ?z_repr ?z_int ?z_bool ?z_dict
    (case a1 => k_is)
    (case l1 => k_is)
    (case c1 => k_is)
    (case k1 => k_is)
    (case a2 => k_is)
    (case l2 => k_is)
    (case c2 => k_is)
    (case k2 => k_is)
    (case a3 => k_is)
    (case l3 => k_is)
    (case c3 => k_is)
    (case k3 => k_is)
    (case a4 => k_is)
    (case l4 => k_is)
    (case c4 => k_is)
    (case k4 => k_is)
    (case a5 => k_is)
    (case l5 => k_is)
    (case c5 => k_is)
    (case k5 => k_is)
    (case a6 => k_is)
    (case l6 => k_is)
    (case c6 => k_is)
    (case k6 => k_is)
    (case a7 => k_is)
    (case l7 => k_is)
    (case c7 => k_is)
    (case k7 => k_is)
    (case a8 => k_is)
    (case l8 => k_is)
    (case c8 => k_is)
    (case k8 => k_is)
    (case a9 => k_is)
    (case l9 => k_is)
    (case c9 => k_is)
    (case k9 => k_is)
    (case a10 => k_is)
    (case l10 => k_is)
    (case c10 => k_is)
    (case k10 => k_is)
    (case a11 => k_is)
    (case l11 => k_is)
    (case c11 => k_is)
    (case k11 => k_is)
    (case a12 => k_is)
    (case l12 => k_is)
    (case c12 => k_is)
    (case k12 => k_is)
    (case a13 => k_is)
    (case l13 => k_is)
    (case c13 => k_is)
    (case k13 => k_is)
    (case a14 => k_is)
    (case l14 => k_is)
    (case c14 => k_is)
    (case k14 => k_is)
    (case a15 => k_is)
    (case l15 => k_is)
    (case c15 => k_is)
    (case k15 => k_is)
    (case a16 => k_is)
    (case l16 => k_is)
    (case c16 => k_is)
    (case k16 => k_is)
    (case a17 => k_is)
    (case l17 => k_is)
    (case c17 => k_is)
    (case k17 => k_is)
    (case a18 => k_is)
    (case l18 => k_is)
    (case c18 => k_is)
    (case k18 => k_is)
    (case a19 => k_is)
    (case l19 => k_is)
    (case c19 => k_is)
    (case k19 => k_is)
    (case a20 => k_is)
    (case l20 => k_is)
    (case c20 => k_is)
    (case k20 => k_is)
    (case a21 => k_is)
    (case l21 => k_is)
    (case c21 => k_is)
    (case k21 => k_is)
    (case a22 => k_is)
    (case l22 => k_is)
    (case c22 => k_is)
    (case k22 => k_is)
    (case a23 => k_is)
    (case l23 => k_is)
    (case c23 => k_is)
    (case k23 => k_is)
    (case a24 => k_is)
    (case l24 => k_is)
    (case c24 => k_is)
    (case k24 => k_is)
    (case a25 => k_is)
    (case l25 => k_is)
    (case c25 => k_is)
    (case k25 => k_is)
    (case a26 => k_is)
    (case l26 => k_is)
    (case c26 => k_is)
    (case k26 => k_is)
    (case a27 => k_is)
    (case l27 => k_is)
    (case c27 => k_is)
    (case k27 => k_is)
    (case a28 => k_is)
    (case l28 => k_is)
    (case c28 => k_is)
    (case k28 => k_is)
    (case a29 => k_is)
    (case l29 => k_is)
    (case c29 => k_is)
    (case k29 => k_is)
    (case a30 => k_is)
    (case l30 => k_is)
    (case c30 => k_is)
    (case k30 => k_is)
    (case a31 => k_is)
    (case l31 => k_is)
    (case c31 => k_is)
    (case k31 => k_is)
    (case a32 => k_is)
    (case l32 => k_is)
    (case c32 => k_is)
    (case k32 => k_is)
    (case a33 => k_is)
    (case l33 => k_is)
    (case c33 => k_is)
    (case k33 => k_is)
    (case a34 => k_is)
    (case l34 => k_is)
    (case c34 => k_is)
    (case k34 => k_is)
    (case a35 => k_is)
    (case l35 => k_is)
    (case c35 => k_is)
    (case k35 => k_is)
    (case a36 => k_is)
    (case l36 => k_is)
    (case c36 => k_is)
    (case k36 => k_is)
    (case z_isinstance => k_is)
    (case z_str => k_is)
    (case z_tuple => k_is)
    (case z_len => k_is)
    (case z_all => k_is)
    (case z_zip => k_is)
    (case z_set => k_is)
    (case z_enumerate => k_is)
    (case z_sorted => k_is)
    (case z_list => k_is)
    (case z_range => k_is)
    (case z_repr => k_is)
    (case z_int => k_is)
    (case z_bool => k_is)
    (case z_dict => k_is)
    (case vL => k_is)
    (case vMOST_COLUMNS => k_is)
    (case vMOST_REFERENCES => k_is)
    (case vMOST_CONDITIONS => k_is)
    (case vMOST_PROBES => k_is)
    (case vMOST_OWN => k_is)
    (case vKINDS => k_is)
    (case lKINDS => k_is)
    (case vWORDS => k_is)
    (case lWORDS => k_is)
    (case vSIGNS => k_is)
    (case lSIGNS => k_is)
    (case vOWN_SIGNS => k_is)
    (case lOWN_SIGNS => k_is)
    (case vLINK_SIGNS => k_is)
    (case lLINK_SIGNS => k_is)
    (case aC => k_is)
    (case pgC => k_is)
    (case hdC => k_is)
    (case poC => k_is)
    (case saC => k_is)
    (case mkC => k_is)
    (case kCC => k_is)
    (case nN => k_is)
    (case nT => k_is)
    (case aI => k_is)
    (case iI => k_is)
    (case lI => k_is)
    (case cI => k_is)
    (case kI => k_is)
    (case ain => k_is)
    (case iin => k_is)
    (case lin => k_is)
    (case cin => k_is)
    (case kin => k_is)
    (case aget => k_is)
    (case iget => k_is)
    (case lget => k_is)
    (case cget => k_is)
    (case kget => k_is)
    (case iget2 => first | rfl | k_is)
    (case aS => k_is)
    (case pgS => k_is)
    (case hdS => k_is)
    (case poS => k_is)
    (case saS => k_is)
    (case mkS => k_is)
    (case kCS => k_is)
    (case nSs => k_is)
    (case nSp => k_is)
    (case aSI => k_is)
    (case iSI => k_is)
    (case lSI => k_is)
    (case cSI => k_is)
    (case kSI => k_is)
    (case dk0 => k_is)
    (case ard => k_is)
    (case ird => k_is)
    (case lrd => k_is)
    (case crd => k_is)
    (case krd => k_is)
    (case pcnd => k_is)
    (case gcnd => k_is)
    (case tcnd => k_is)
    (case rcnd => k_is)
    (case lcnd => k_is)
    (case ccnd => k_is)
    (case kcnd => k_is)
    (case pprb => k_is)
    (case gprb => k_is)
    (case tprb => k_is)
    (case rprb => k_is)
    (case lprb => k_is)
    (case cprb => k_is)
    (case kprb => k_is)
    (case pstg => k_is)
    (case gstg => k_is)
    (case tstg => k_is)
    (case rstg => k_is)
    (case lstg => k_is)
    (case cstg => k_is)
    (case kstg => k_is)
    (case ptld => k_is)
    (case gtld => k_is)
    (case ttld => k_is)
    (case rtld => k_is)
    (case ltld => k_is)
    (case ctld => k_is)
    (case ktld => k_is)
    (case pprt => k_is)
    (case gprt => k_is)
    (case tprt => k_is)
    (case rprt => k_is)
    (case lprt => k_is)
    (case cprt => k_is)
    (case kprt => k_is)
