import PyProof.Rows.All
import Wide.All
import OpenK.AllK
import Wide.FinOn
import HandS.ForMost
import HandS.Wide
import HandS.Style
import HandS.Flow
import HandS.RaiseMore
import HandS.Defaults
import HandS.MakeKwOnly
import HandS.Evl
import KE.DataCmp
import HandS.Property
import HandS.Comp
import HandS.DictComp
import HandS.ExcInit
import HandS.ExcIs
import HandS.More
import HandS.Star
import HandS.Strs
import HandS.TryOnly
import HandS.CallSlots
import HandS.WordsExc
import HandS.GenList
import HandS.GenYield
import KE.SortData
import KE.DataMinMax
import HandS.Iter
import KE.KItemsList
import HandS.NamedTupSort
import HandS.Deep
import HandS.NamedTupGet
import HandS.Walk
import HandS.Zip
import PyProof.StrBlock2
import KE.GoesEnum
import HandS.SetFor
import PyProof.SeqIndex
import HandS.SetKeys
import HandS.TupAny
import HandS.IsInst
import HandS.FStr
import HandS.Text
import HandS.JoinGen
import HandS.ExcField
import HandS.ClsMeth
import PyProof.TupleOfSeq
import KE.SortCalls
import PySem.Challenge.RW_ownwake_k03_texts_of_schemas
set_option Elab.async false
set_option maxRecDepth 100000
/-! defs that are called where nothing is being shown (repr): the layer's own def rule with that one fact carried along -/
namespace Own
open PySem PySem.Spec PyProof.Rows L2

abbrev Quiet (A : Around) : Prop := A.guards = some []

/-- a def that keeps sp, called where nothing is being shown -/
structure GOk (P : Program) (w : World) (K : PySem.W.Frag) (mg : Str → Option Value) (g0 : Heap) (Z : CXT) (k : Nat)
    (f : Addr) (fd : FuncData) (ps : List Str) (sp : Sp) : Prop where
  len : ∀ vs H Q E, sp vs H Q E → vs.length = ps.length
  run : ∀ (A : Around) (up : List Env) (s : Shared) (H : Hp) (as : Args) (us : List Value) (vs : List V) (Q : VK) (E : XK),
    Quiet A → Room k A → Env0 P w K mg g0 A up s H → BindsTo s fd as (ps.zip us) → Vals vs us → sp vs H Q E →
    codeAny (model P w) A (.call (.ref f) as) (CR Z up P w H s Q E) s

section
variable {P : Program} {w : World} {K : PySem.W.Frag} {mg : Str → Option Value} {g0 : Heap} {Z : CXT} {k j : Nat}
  {f : Addr} {fd : FuncData} {ps : List Str} {sp : Sp}
theorem GOk.of (F : FnOk P w K mg g0 Z k f fd ps sp) : GOk P w K mg g0 Z k f fd ps sp :=
  ⟨F.len, fun A up s H as us vs Q E _ => F.run A up s H as us vs Q E⟩
theorem GOk.mono (F : GOk P w K mg g0 Z j f fd ps sp) (h : j ≤ k) : GOk P w K mg g0 Z k f fd ps sp :=
  ⟨F.len, fun A up s H as us vs Q E q r => F.run A up s H as us vs Q E q (r.mono h)⟩
end

section
variable {X : Cx} {Z : CXT} {k : Nat} {f : Addr} {fd : FuncData} {ps : List Str} {sp : Sp} {dvs : List V} {ds : List Value}
  {E : XK} {x : Str} {p pos : Pos} {e : Expr} {es : List Expr} {t : TA}

theorem goRun {pins : List (Addr × Obj)} {σ : L2.St} {H : Hp} {s : Shared} {Q : VK} {us : List Value} {vs : List V}
    (qt : Quiet X.A) (F : GOk X.prog X.w X.K X.mg X.base Z k f fd ps sp) (room : Room k X.A)
    (bd : Binds X.K fd ps ds) (dv : Vals dvs ds) (px : Passes Z X E) (I : Inv X pins σ H s) (rv : Vals vs us)
    (q : sp (vs ++ dvs) H Q E) : wpAny (model X.prog X.w) X.A (call (.ref f) us) (EP X pins σ Q) X.xe s := by
  have rr : Vals (vs ++ dvs) (us ++ ds) := rv.append dv
  have ll : (us ++ ds).length = ps.length := rr.length.symm.trans (F.len _ _ _ _ q)
  have cc := F.run X.A X.stack s H ⟨us, []⟩ (us ++ ds) (vs ++ dvs) Q E qt room I.env0 (bd s us I.kIn ll) rr q
  refine wpAny_call (codeAny_mono cc ?_)
  intro r s' z
  match r, z with
  | .error e, z => exact px pins σ H s e s' I z
  | .ok (.ret u), z => exact I.after z
  | .ok .next, z => exact z.elim
  | .ok .brk, z => exact z.elim
  | .ok .cont, z => exact z.elim

/-- f(e, ..) -/
theorem pe_callG (qt : Quiet X.A) (F : GOk X.prog X.w X.K X.mg X.base Z k f fd ps sp) (room : Room k X.A) (gl : Gl X x)
    (at_ : X.mg x = some (.ref f)) (kp : PySem.W.keepIn X.K (.ref f) = true) (bd : Binds X.K fd ps ds) (dv : Vals dvs ds)
    (px : Passes Z X E) (pa : PA X (e :: es) t) (nodbg : (x == ("__debug__" : Str)) = false := by decide)
    (st : starEach (e :: es) X.env = (false, eval e X.env) :: starEach es X.env := by rfl)
    (pl : (backTo pos (starEach es X.env)).any (·.1) = false := by rfl) :
    PE X (.Call (.Name x p) (e :: es) [] pos) (tCall sp dvs E t) := by
  constructor
  intro pins s σ H Q I q
  refine wpAny_Call_Name_kw (ld_glob I gl at_ ?_ nodbg)
  refine PySem.W.callWith_K (h₀ := X.base) I.ok.mod.kin kp ?_ st pl
  exact thn (pa.run pos pins s σ H _ I q) fun us s1 ⟨vs, H1, I1, rv, q1⟩ => ⟨I1.kIn, goRun qt F room bd dv px I1 rv q1⟩
end

/-- a def of the text, by its body, where nothing is being shown -/
theorem okG {P : Program} {w : World} {K : PySem.W.Frag} {mg : Str → Option Value} {g0 : Heap} {x qual : Str} {st : Stmt} {f : Addr}
    {fd : FuncData} {N ps : List Str} {k : Nat} {sp : Sp} (F : Fun K x qual st f fd) (S : FnScope N ps (defScope st))
    (len : ∀ vs H Q E, sp vs H Q E → vs.length = ps.length)
    (body : ∀ (cdv : Value) (A : Around) (up : List Env) (s : Shared) (H : Hp) (vs : List V) (Q : VK) (E : XK), Quiet A →
      Room k (A.deeper (envOfC qual (defScope st) s.heap.objs.size f cdv)) → sp vs H Q E →
      ∃ t, PSs (cxOf CX0 P w K mg g0 N qual (defScope st) f cdv A up s H E).nox (defBody st) t ∧
        t { nx := fun _ H' => Q .non H', rt := Q } (start N vs) H) : GOk P w K mg g0 CX0 (k + 1) f fd ps sp := by
  obtain ⟨oc, od, kV, doc, pm, an, cdv, ct, osl, rfl, lk, hcd⟩ := F.ex
  refine ⟨len, ?_⟩
  intro A up s H as us vs Q E qt room e0 bd rv q
  have ll := len _ _ _ _ q
  have kk : K.In s.heap := e0.mod.kin.keeps fun b o e => (e0.bs b o e).1
  have nolim : s.heap.NoLimit := e0.mod.nolimit.keeps fun b o e => (e0.bs b o e).1
  have names : ∀ y ∈ ps.zip us, (defScope st).names.lookup y.1 = some .local ∨
      ((defScope st).names.lookup y.1 = some .cell ∧
        ((cellsFrom (s.heap.objs.size + 1) (defScope st).names []).lookup y.1).isSome = true) := by
    rintro ⟨n, v⟩ hy
    exact (S.par n (List.of_mem_zip hy).1).imp id fun z => ⟨z, PySem.W.cellsFrom_some _ _ _ (.inl z)⟩
  refine codeAny_call_function room.depth (kk _ _ lk) rfl S.co S.gen rfl (PySem.W.codeRec_of kk hcd) (bd _ _ _ _ ?_)
  refine wpAny_newFunctionEnv_cells S.kind names ?_
  intro env he s1 ic
  subst he
  refine ⟨nolim.keeps ic.toInCall.keep, codeAny_func ?_⟩
  obtain ⟨t, pt, rd⟩ := body cdv A up s H vs Q E qt (room.deeper _) q
  have I := inv_start (CX := CX0) (E := E) S room.hd e0 ll rv ic
  have run := (PSs.nox pt).run [] s1 (start N vs) H _ I rd
  refine wpAny_mono run ?_ fun e s' z => z
  intro fl s' z
  have fin : ∀ {σ' : L2.St} {H' : Hp} {v : V} {u : Value},
      Inv (cxOf CX0 P w K mg g0 N qual (defScope st) f cdv A up s H E) [] σ' H' s' → RelV v u → Q v H' → CE up P w H s Q u s' := by
    intro σ' H' v u J rr qq
    exact ⟨v, H', J.os, J.bare, J.base, J.hok, rr, qq⟩
  match fl, z with
  | .ret u, ⟨v, σ', H', J, rr, qq⟩ => exact fin J rr qq
  | .next, ⟨σ', H', J, qq⟩ => exact fin (v := V.non) (u := Value.none) J rfl qq
  | .brk, ⟨_, _, _, z⟩ => exact z.elim
  | .cont, ⟨_, _, _, z⟩ => exact z.elim

theorem quiet_deeper {A : Around} {env : Env} (q : Quiet A) : Quiet (A.deeper env) := q
theorem quiet_caller : Quiet callerA := rfl

/-! ### repr of data -/
mutual
theorem dp_nodict {K : PySem.W.Frag} {H : Hp} : ∀ {d : PyData} {v : V}, Dp K H v d → d.hasDict = false
  | .none, _, _ => rfl
  | .bool _, _, _ => rfl
  | .int _, _, _ => rfl
  | .str _, _, _ => rfl
  | .list _, _, .lst _ a => dps_nodict a
  | .tuple _, _, .tup _ a => dps_nodict a
theorem dps_nodict {K : PySem.W.Frag} {H : Hp} : ∀ {ds : List PyData} {vs : List V}, DpAll K H vs ds → PyData.hasDictAll ds = false
  | [], _, _ => rfl
  | _ :: _, _, .cons a b => by
    show (_ || _) = false
    rw [dp_nodict a, dps_nodict b]
    rfl
end
/-- repr(x), x data -/
def rRepr (K : PySem.W.Frag) : List V → Hp → VK → Prop := fun xs H Q =>
  ∃ x d, xs = [x] ∧ Dp K H x d ∧ d.showable = true ∧ d.depth ≤ 60 ∧ d.shown.length ≤ sizeLine ∧ Q (.str d.shown) H
theorem call_repr {X : Cx} (qt : Quiet X.A) (hu : X.A.units + 64 < cLine) : CallR X (.builtin "repr") (rRepr X.K) := by
  intro pins s σ H xs us Q I rv h
  obtain ⟨x, d, rfl, hd, hs, hz, hl, q⟩ := h
  obtain ⟨u, rfl, rx⟩ : ∃ u, us = [u] ∧ RelV x u := by
    cases rv with
    | cons a b =>
      cases b
      exact ⟨_, rfl, a⟩
  obtain ⟨as, rd⟩ := Dp.reads I d x u hd rx
  have nd := dp_nodict hd
  cases hd with
  | non =>
    cases rx
    exact P.repr_of_none ⟨.str "None", H, I.tok _, ⟨_, rfl⟩, q⟩
  | bl b =>
    cases rx
    exact P.repr_of_bool ⟨.str (if b then "True" else "False"), H, I.tok _, ⟨_, rfl⟩, q⟩
  | int i =>
    obtain ⟨t, rfl⟩ := rx
    refine P.repr_of_int ?_ ⟨.str (toString i), H, I.tok _, ⟨_, rfl⟩, q⟩
    simpa [PyData.showable] using hs
  | str y =>
    obtain ⟨t, rfl⟩ := rx
    exact P.repr_of_str ⟨.str (reprText y), H, I.tok _, ⟨_, rfl⟩, q⟩ hl
  | lst _ _ =>
    cases rx
    exact repr_of_reads' rd hs (fun z => by rw [nd] at z; cases z) qt (by omega) (fun _ _ z => z)
      (fun h' w tk k => ⟨.str _, H, I.kept k, ⟨_, rfl⟩, q⟩) hl
  | tup _ _ =>
    cases rx
    exact repr_of_reads' rd hs (fun z => by rw [nd] at z; cases z) qt (by omega) (fun _ _ z => z)
      (fun h' w tk k => ⟨.str _, H, I.kept k, ⟨_, rfl⟩, q⟩) hl

/-! ### a < b, a > b of alike data -/
def rLtD (K : PySem.W.Frag) : R2 := fun x y H Q => ∃ d e, Dp K H x d ∧ Dp K H y e ∧ PySem.W.alike d e = true ∧ d ≠ .none ∧ d.depth ≤ 60 ∧ Q (.bl (PySem.W.dataLt d e)) H
def rGtD (K : PySem.W.Frag) : R2 := fun x y H Q => ∃ d e, Dp K H x d ∧ Dp K H y e ∧ PySem.W.alike d e = true ∧ d ≠ .none ∧ d.depth ≤ 60 ∧ Q (.bl (PySem.W.dataLt e d)) H
theorem op_ltD {X : Cx} (hu : X.A.units + 64 < cLine) : OpR X (compareOp .Lt) (rLtD X.K) := by
  intro pins s σ H x y v u Q I rx ry h
  obtain ⟨d, e, hd, he, al, nn, dp, q⟩ := h
  obtain ⟨as, r1⟩ := Dp.reads I d x v hd rx
  obtain ⟨bs, r2⟩ := Dp.reads I e y u he ry
  exact PySem.W.lt_data r1 r2 al nn (by omega) ⟨.bl _, H, I, rfl, q⟩
theorem op_gtD {X : Cx} (hu : X.A.units + 64 < cLine) : OpR X (compareOp .Gt) (rGtD X.K) := by
  intro pins s σ H x y v u Q I rx ry h
  obtain ⟨d, e, hd, he, al, nn, dp, q⟩ := h
  obtain ⟨as, r1⟩ := Dp.reads I d x v hd rx
  obtain ⟨bs, r2⟩ := Dp.reads I e y u he ry
  exact PySem.W.gt_data r1 r2 al nn (by omega) ⟨.bl _, H, I, rfl, q⟩
end Own

set_option Elab.async false
set_option maxRecDepth 100000
/-! the law's call, from a promise that is kept where nothing is being shown -/
namespace Own
open PySem PySem.Spec PyProof.Rows L2

/-- the wish of the law: True -/
abbrev qTrue : VK := fun v _ => v = .bl true

theorem lawG {P : Program} {w : World} {K : PySem.W.Frag} {mg mb : Str → Option Value} {k : Nat} {fa a : Addr} {fd : FuncData}
    {x : Str} {sp : Sp} {s : Shared} {vs : List Value} {ns : List Int} (kk : K.In s.heap) (gm : s.heap.Ns mainGlobals mg)
    (gb : s.heap.Ns builtinsNs mb) (gbb : ∀ y : Str, y ≠ "__name__" → mb y = bootBuiltins y) (nolim : s.heap.NoLimit)
    (nog : s.gens = #[]) (at_ : s.heap.get? a = some { cls := .type "list", data := .seq vs.toArray }) (hin : IntsAre vs ns)
    (small : ns.length ≤ sizeLine) (room : Room k callerA)
    (F : ∀ g0 : Heap, K.In g0 → g0.Ns mainGlobals mg → GOk P w K mg g0 CX0 k fa fd [x] sp)
    (bd : ∀ (s : Shared) (u : Value), BindsTo s fd ⟨[u], []⟩ [(x, u)])
    (sp0 : ∀ H : Hp, Only H → SqL K H a (ns.map V.int) → sp [.ref a] H qTrue fun _ _ _ => False) :
    codeAny (model P w) callerA (.call (.ref fa) ⟨[.ref a], []⟩)
      (fun r s' => r = .ok (.ret (.bool true)) ∧ OldK s.heap s'.heap ∧ s'.os = s.os ∧ AllBare s'.gens) s := by
  have rv := vals_ints hin
  have nv : vs.length = ns.length := hin.length
  -- whatever the abstract heap says of the script, it says nothing else
  have main : ∀ H : Hp, (∀ b, H b ≠ none → b = a) → Only H → SqL K H a (ns.map V.int) → HOk P w H s.heap → (H a ≠ none → K.lookup a = none) →
      codeAny (model P w) callerA (.call (.ref fa) ⟨[.ref a], []⟩)
        (fun r s' => r = .ok (.ret (.bool true)) ∧ OldK s.heap s'.heap ∧ s'.os = s.os ∧ AllBare s'.gens) s := by
    intro H onlyA only sq hok notK
    have dictNone : ∀ {b : Addr} {o : Obj} {es : Array DictEntry} {n : Nat}, s.heap.get? b = some o → o.data = .dict es n → H b = none := by
      intro b o es n ho hd
      match hb : H b with
      | none => rfl
      | some u =>
        obtain rfl := onlyA b (by rw [hb]; exact fun z => nomatch z)
        rw [at_] at ho
        cases ho
        cases hd
    have ns0 : ∀ {b : Addr} {m : Str → Option Value}, s.heap.Ns b m → (hidT s.heap H).Ns b m := by
      rintro b m ⟨o, es, n, ho, hd, r⟩
      exact ⟨o, es, n, hidT_get ho (dictNone ho hd), hd, r⟩
    have k0 : K.In (hidT s.heap H) := by
      intro b o hb
      refine hidT_get (kk b o hb) ?_
      match hH : H b with
      | none => rfl
      | some u =>
        obtain rfl := onlyA b (by rw [hH]; exact fun z => nomatch z)
        rw [notK (by rw [hH]; exact fun z => nomatch z)] at hb
        cases hb
    have md : Mod K mg (hidT s.heap H) :=
      { kin := k0, glob := ns0 gm, blt := ⟨mb, ns0 gb, gbb⟩, nolimit := by obtain ⟨mc, n1, n2⟩ := nolim; exact ⟨mc, ns0 n1, n2⟩ }
    have e0 : Env0 P w K mg (hidT s.heap H) callerA [] s H :=
      { frames := rfl, mod := md, bs := fun b o e => of_hidT e, bsz := Nat.le_of_eq (hidT_size _ _), funs := trivial,
        frf := fun b hb => absurd (show b ∈ ([] : List Addr) from hb) (by simp), hok := hok, bare := .of_eq nog }
    have cc := (F _ k0 (ns0 gm)).run callerA [] s H ⟨[.ref a], []⟩ [.ref a] [.ref a] qTrue (fun _ _ _ => False) quiet_caller room e0
      (bd s (.ref a)) (.cons rfl .nil) (sp0 H only sq)
    refine codeAny_mono cc ?_
    intro r s' z
    match r, z with
    | .error e, z => exact z.elim
    | .ok .next, z => exact z.elim
    | .ok .brk, z => exact z.elim
    | .ok .cont, z => exact z.elim
    | .ok (.ret u), ⟨v, H', os, bare, un, hok', rr, q⟩ =>
      have q' : v = V.bl true := q
      subst q'
      obtain rfl : u = Value.bool true := rr
      refine ⟨rfl, OldK.of_keep ?_, os, bare⟩
      intro b o ho
      have nf : b ∉ frs ([] : List Env) := fun z => absurd (show b ∈ ([] : List Addr) from z) (by simp)
      match hb : H b with
      | none => exact un.keep b o ho hb nf (by simp)
      | some u =>
        rcases only b with z | ⟨ob, xs, z⟩
        · rw [hb] at z
          cases z
        · have z2 := un.frzs b ob _ z
          have p1 := (hok b _ z).1
          have p2 := (hok' b _ z2).1
          rw [ho] at p1
          cases p1
          exact p2
  match hk : K.lookup a with
  | some o =>
    have e := kk a o hk
    rw [at_] at e
    cases e
    refine main (fun _ => none) (fun b z => absurd rfl z) (fun b => .inl rfl) ?_ (fun b u z => ?_) fun z => absurd rfl z
    · refine .inr ⟨_, vs.toArray, _, hk, rfl, rfl, rfl, ?_, by simpa using rv⟩
      rw [List.size_toArray, nv]
      exact small
    · have z' : (none : Option HO) = some u := z
      cases z'
  | none =>
    let o1 : HO := .frz { cls := .type "list", data := .seq vs.toArray } (.lst (ns.map V.int))
    have ya : (fun b => if b = a then some o1 else none : Hp) a = some o1 := if_pos rfl
    refine main (fun b => if b = a then some o1 else none) (fun b z => ?_) (fun b => ?_) (.inl (.inr ⟨_, ya⟩)) (fun b u z => ?_) fun _ => hk
    · by_cases hb : b = a
      · exact hb
      · exact absurd (if_neg hb) z
    · by_cases hb : b = a
      · exact .inr ⟨_, _, if_pos hb⟩
      · exact .inl (if_neg hb)
    · by_cases hb : b = a
      · have z' := (if_pos hb).symm.trans z
        cases z'
        subst hb
        refine ⟨at_, ?_, vs, _, rv, at_⟩
        rw [List.length_map]
        exact small
      · have z' := (if_neg hb).symm.trans z
        cases z'

theorem walkG {l : PySem.W.OpenLaw} {n k : Nat} {q : Program} {loose : List Str} {XP : (Str → Option Value) → Heap → Prop}
    {YP : World → Heap → Prop} {d : DefRec} {K : Params → PySem.W.Frag} {sp : World → Sp} {x : Str}
    (hn : l.most = some n) (hn2 : n ≤ sizeLine) (hdf : d.params.defaults = []) (room : Room k callerA)
    (hY : ∀ (w : World) (h : Heap), YP w h → (K w.params).In h)
    (F : ∀ (w : World) (mg : Str → Option Value) (fa : Addr) (h : Heap), (K w.params).In h → h.Ns mainGlobals mg → mg d.name = some (.ref fa) →
      ∃ fd : FuncData, (∀ (s : Shared) (u : Value), BindsTo s fd ⟨[u], []⟩ [(x, u)]) ∧
        ∀ g0 : Heap, (K w.params).In g0 → g0.Ns mainGlobals mg → GOk l.prog w (K w.params) mg g0 CX0 k fa fd [x] (sp w))
    (sp0 : ∀ (w : World) (H : Hp) (a : Addr) (ns : List Int), ns.length ≤ n → Only H → SqL (K w.params) H a (ns.map V.int) →
      sp w [.ref a] H qTrue fun _ _ _ => False) :
    PySem.W.WalkO q loose XP YP l.row.toRowW d [] (fun f vs => PySem.call f vs) := by
  refine Att.attach_call hn hdf ?_
  intro w s0 s mg mb fa o pm cd doc a vs ns G Y ho hd hcd hmg hobj hin hlen hg
  have kk := hY w _ Y
  obtain ⟨fd, bd, FF⟩ := F w mg fa _ kk G.T.g hmg
  exact lawG kk G.T.g G.T.b G.T.builtins G.T.nolimit hg hobj hin (Nat.le_trans hlen hn2) room FF bd fun H hO hS => sp0 w H a ns hlen hO hS
end Own

set_option Elab.async false
set_option maxRecDepth 100000
/-! calls by name, readings step by step, heaps that grow -/
namespace Own
open PySem PySem.Spec PyProof.Rows L2

/-! ### a def that stands at a name -/
structure Cal (P : Program) (w : World) (K : PySem.W.Frag) (mg : Str → Option Value) (g0 : Heap) (x : Str) (k : Nat) (ps : List Str) (sp : Sp) : Prop where
  ex : ∃ (f : Addr) (fd : FuncData), GOk P w K mg g0 CX0 k f fd ps sp ∧ Binds K fd ps [] ∧ mg x = some (.ref f) ∧ PySem.W.keepIn K (.ref f) = true
/-- .. by keywords: n values, then those of the names ks -/
structure CalK (P : Program) (w : World) (K : PySem.W.Frag) (mg : Str → Option Value) (g0 : Heap) (x : Str) (k : Nat) (ps : List Str) (n : Nat) (ks : List Str) (gV : List V → List V → List V) (sp : Sp) : Prop where
  ex : ∃ (f : Addr) (fd : FuncData) (g : List Value → List Value → List Value), GOk P w K mg g0 CX0 k f fd ps sp ∧ KBn K fd ps n ks g gV ∧ mg x = some (.ref f) ∧ PySem.W.keepIn K (.ref f) = true
section
variable {X : Cx} {k n : Nat} {ps ks : List Str} {sp : Sp} {x : Str} {p pos : Pos} {e : Expr} {es : List Expr} {kws : List Keyword} {t tk : TA} {gV : List V → List V → List V}
theorem pe_c (C : Cal X.prog X.w X.K X.mg X.base x k ps sp) (qt : Quiet X.A) (room : Room k X.A) (pa : PA X (e :: es) t) (gl : Gl X x := by rfl)
    (nodbg : (x == ("__debug__" : Str)) = false := by decide)
    (st : starEach (e :: es) X.env = (false, eval e X.env) :: starEach es X.env := by rfl)
    (pl : (backTo pos (starEach es X.env)).any (·.1) = false := by rfl) :
    PE X (.Call (.Name x p) (e :: es) [] pos) (tCall sp [] E0 t) := by
  obtain ⟨f, fd, G, bd, at_, kp⟩ := C.ex
  exact pe_callG qt G room gl at_ kp bd .nil pass0 pa nodbg st pl
theorem goRunK {pins : List (Addr × Obj)} {σ : L2.St} {H : Hp} {s : Shared} {Q : VK} {us ws : List Value} {vs zs : List V}
    (C : CalK X.prog X.w X.K X.mg X.base x k ps n ks gV sp) (qt : Quiet X.A) (room : Room k X.A) (I : Inv X pins σ H s) (rv : Vals vs us) (rz : Vals zs ws)
    (l1 : vs.length = n) (l2 : zs.length = ks.length) (q : sp (gV vs zs) H Q E0) (f : Addr) (at_ : X.mg x = some (.ref f)) :
    wpAny (model X.prog X.w) X.A (call (.ref f) us (ks.zip ws)) (EP X pins σ Q) X.xe s := by
  obtain ⟨f', fd, g, G, bd, at', kp⟩ := C.ex
  rw [at_] at at'
  cases at'
  have rr := bd.rel rv rz
  have cc := G.run X.A X.stack s H ⟨us, ks.zip ws⟩ (g us ws) (gV vs zs) Q E0 qt room I.env0
    (bd.to s us ws I.kIn (rv.length.symm.trans l1) (rz.length.symm.trans l2)) rr q
  refine wpAny_call (codeAny_mono cc ?_)
  intro r s' z
  match r, z with
  | .error e, z => exact z.elim
  | .ok (.ret u), z => exact I.after z
  | .ok .next, z => exact z.elim
  | .ok .brk, z => exact z.elim
  | .ok .cont, z => exact z.elim
def tCK (n m : Nat) (sp : Sp) (gV : List V → List V → List V) (t tk : TA) : TE := fun σ H Q =>
  t σ H fun vs H1 => tk σ H1 fun zs H2 => vs.length = n ∧ zs.length = m ∧ sp (gV vs zs) H2 Q E0
/-- f(k = v, ..) -/
theorem pe_ck0 (C : CalK X.prog X.w X.K X.mg X.base x k ps 0 ks gV sp) (qt : Quiet X.A) (room : Room k X.A) (pk : PK X kws tk) (gl : Gl X x := by rfl)
    (all : (backToKw pos (keywordEach kws X.env)).all (·.1.isSome) = true := by rfl) (nm : (backToKw pos (keywordEach kws X.env)).filterMap (·.1) = ks := by rfl)
    (nodbg : (x == ("__debug__" : Str)) = false := by decide)
    (pl : ((backTo pos (starEach [] X.env)).any (·.1) || (backToKw pos (keywordEach kws X.env)).any (·.1.isNone)) = false := by rfl) :
    PE X (.Call (.Name x p) [] kws pos) (tCK 0 ks.length sp gV tNil tk) := by
  obtain ⟨f, fd, g, G, bd, at_, kp⟩ := C.ex
  constructor
  intro pins s σ H Q I q
  refine wpAny_Call_Name_kw (ld_glob I gl at_ ?_ nodbg)
  refine PySem.W.callWith_KW0 (h₀ := X.base) I.ok.mod.kin kp all ?_ pl
  refine thn (pk.run pos pins s σ H _ I q) fun ws s2 ⟨zs, H2, I2, rz, l1, l2, q2⟩ => ⟨I2.kIn, ?_⟩
  rw [nm]
  exact goRunK C qt room I2 .nil rz rfl l2 q2 f at_
/-- f(e, .., k = v, ..) -/
theorem pe_ck (C : CalK X.prog X.w X.K X.mg X.base x k ps n ks gV sp) (qt : Quiet X.A) (room : Room k X.A) (pa : PA X (e :: es) t) (pk : PK X kws tk) (gl : Gl X x := by rfl)
    (all : (backToKw pos (keywordEach kws X.env)).all (·.1.isSome) = true := by rfl) (nm : (backToKw pos (keywordEach kws X.env)).filterMap (·.1) = ks := by rfl)
    (nodbg : (x == ("__debug__" : Str)) = false := by decide) (st : starEach (e :: es) X.env = (false, eval e X.env) :: starEach es X.env := by rfl)
    (pl : ((backTo pos (starEach (e :: es) X.env)).any (·.1) || (backToKw pos (keywordEach kws X.env)).any (·.1.isNone)) = false := by rfl) :
    PE X (.Call (.Name x p) (e :: es) kws pos) (tCK n ks.length sp gV t tk) := by
  obtain ⟨f, fd, g, G, bd, at_, kp⟩ := C.ex
  constructor
  intro pins s σ H Q I q
  refine wpAny_Call_Name_kw (ld_glob I gl at_ ?_ nodbg)
  refine PySem.W.callWith_KW (h₀ := X.base) I.ok.mod.kin kp all (thn (pa.run pos pins s σ H _ I q) fun us s1 ⟨vs, H1, I1, rv, q1⟩ => ?_) pl st
  refine thn (pk.run pos pins s1 σ H1 _ I1 q1) fun ws s2 ⟨zs, H2, I2, rz, l1, l2, q2⟩ => ⟨I2.kIn, ?_⟩
  rw [nm]
  exact goRunK C qt room I2 rv rz l1 l2 q2 f at_
end

/-! ### heaps that grow; objects at M may change -/
def Ext (M : Addr → Prop) (H H' : Hp) : Prop := (∀ a xs, H a = some (.tup xs) → H' a = some (.tup xs)) ∧ ∀ a o, ¬ M a → H a = some o → H' a = some o
theorem Same.ext {M : Addr → Prop} {H H' : Hp} (s : Same H H') : Ext M H H' := ⟨fun a _ h => s a _ h, fun a o _ h => s a o h⟩
theorem Ext.refl {M : Addr → Prop} (H : Hp) : Ext M H H := ⟨fun _ _ h => h, fun _ _ _ h => h⟩
theorem Ext.trans {M : Addr → Prop} {H H1 H2 : Hp} (a : Ext M H H1) (b : Ext M H1 H2) : Ext M H H2 :=
  ⟨fun x xs h => b.1 x xs (a.1 x xs h), fun x o n h => b.2 x o n (a.2 x o n h)⟩
theorem Ext.mono {M N : Addr → Prop} {H H' : Hp} (e : Ext M H H') (h : ∀ a, M a → N a) : Ext N H H' := ⟨e.1, fun a o n => e.2 a o fun z => n (h a z)⟩
theorem Ext.same {H H' : Hp} (e : Ext (fun _ => False) H H') : Same H H' := fun a o h => e.2 a o (fun z => z) h
theorem Ext.tup {M : Addr → Prop} {H H' : Hp} (e : Ext M H H') {a : Addr} {xs : List V} (h : H a = some (.tup xs)) : H' a = some (.tup xs) := e.1 a xs h
theorem Same.upd {H : Hp} {p : Addr} {o : HO} (h : H p = none) : Same H (upd H p o) := fun a u e => by
  rw [upd_ne (ne_of_none e h)]
  exact e
theorem ext_new {M : Addr → Prop} {H : Hp} {p : Addr} {o : HO} (h : H p = none) : Ext M H (L2.upd H p o) := Same.ext (Same.upd h)
theorem Ext.upd {M : Addr → Prop} {H : Hp} {p : Addr} {o u : HO} (h : H p = some u) (m : M p) (nt : ∀ xs, u ≠ .tup xs) : Ext M H (upd H p o) := by
  refine ⟨fun a xs e => ?_, fun a v n e => ?_⟩
  · rw [upd_ne fun z => ?_]
    · exact e
    · subst z
      rw [h] at e
      cases e
      exact nt _ rfl
  · rw [upd_ne fun z => ?_]
    · exact e
    · subst z
      exact n m
theorem SqT.ext {M : Addr → Prop} {K : PySem.W.Frag} {H H' : Hp} (e : Ext M H H') {a : Addr} {xs : List V} (h : SqT K H a xs) (m : ¬ M a) : SqT K H' a xs := by
  rcases h with (h | ⟨o, h⟩) | h
  · exact .inl (.inl (e.1 _ _ h))
  · exact .inl (.inr ⟨o, e.2 _ _ m h⟩)
  · exact .inr h
theorem SqL.ext {M : Addr → Prop} {K : PySem.W.Frag} {H H' : Hp} (e : Ext M H H') {a : Addr} {xs : List V} (h : SqL K H a xs) (m : ¬ M a) : SqL K H' a xs := by
  rcases h with (h | ⟨o, h⟩) | h
  · exact .inl (.inl (e.2 _ _ m h))
  · exact .inl (.inr ⟨o, e.2 _ _ m h⟩)
  · exact .inr h

/-! ### the readings, one step at a time -/
section
variable {t u : TS} {D : Ends} {σ : L2.St} {H : Hp} {te ta tb : TE} {i : Nat} {Q : VK} {v : V} {tt tu : TT} {QB : Bool → Hp → Prop} {r : R2} {tl tr : TA} {QA : List V → Hp → Prop}
theorem k_seq (h : t { D with nx := u D } σ H) : tSeq t u D σ H := h
theorem k_asg {g : TG} (h : te σ H fun x H1 => g x σ H1 D.nx) : tAsg te g D σ H := h
theorem k_gN {QS : L2.St → Hp → Prop} (h : QS (σ.set i (some v)) H) : gName i v σ H QS := h
theorem k_gS {QS : L2.St → Hp → Prop} {ts : TSet} (h : ta σ H fun o H1 => tb σ H1 fun x H2 => ts o x v H2 fun H3 => QS σ H3) : gSub ta tb ts v σ H QS := h
theorem k_gNil {QS : L2.St → Hp → Prop} (h : QS σ H) : gNil [] σ H QS := ⟨rfl, h⟩
theorem k_gCons {QS : L2.St → Hp → Prop} {g : TG} {gs : TGs} {vs : List V} (h : g v σ H fun σ' H' => gs vs σ' H' QS) : gCons g gs (v :: vs) σ H QS := ⟨v, vs, rfl, h⟩
theorem k_gTup {QS : L2.St → Hp → Prop} {K : PySem.W.Frag} {n : Nat} {gs : TGs} {a : Addr} {xs : List V} (e : SqT K H a xs) (l : xs.length = n) (h : gs xs σ H QS) : gTup K n gs (.ref a) σ H QS := ⟨a, xs, rfl, e, l, h⟩
theorem k_ret (h : te σ H D.rt) : tRet te D σ H := h
theorem k_drop (h : te σ H fun _ H' => D.nx σ H') : tDrop te D σ H := h
theorem k_next (h : D.nx σ H) : tNext D σ H := h
theorem k_ifS (h : tt σ H fun b H' => if b = true then t D σ H' else u D σ H') : tIfS tt t u D σ H := h
theorem k_var (e : σ[i]? = some (some v)) (h : Q v H) : tVar i σ H Q := ⟨v, e, h⟩
theorem k_c (h : Q v H) : tC v σ H Q := h
theorem k_op (h : ta σ H fun x H1 => tb σ H1 fun y H2 => r x y H2 Q) : tOp r ta tb σ H Q := h
theorem k_un {ru : V → Hp → VK → Prop} (h : ta σ H fun x H1 => ru x H1 Q) : tUn ru ta σ H Q := h
theorem k_test (h : te σ H fun x H' => ∃ k, x = .bl k ∧ QB k H') : tTest te σ H QB := h
theorem k_B (h : te σ H fun x H' => ∃ k, x = .bl k ∧ QB k H') : tB te σ H QB := h
theorem k_and (h : tt σ H fun c H1 => if c = true then tu σ H1 QB else QB false H1) : tAnd tt tu σ H QB := h
theorem k_or (h : tt σ H fun c H1 => if c = true then QB true H1 else tu σ H1 QB) : tOr tt tu σ H QB := h
theorem k_not (h : tt σ H fun c H1 => QB (!c) H1) : tNot tt σ H QB := h
theorem k_andV (h : ta σ H fun x H1 => ∃ c, x = .bl c ∧ if c = true then tb σ H1 Q else Q (.bl false) H1) : tAndV ta tb σ H Q := h
theorem k_orV (h : ta σ H fun x H1 => ∃ c, x = .bl c ∧ if c = true then Q (.bl true) H1 else tb σ H1 Q) : tOrV ta tb σ H Q := h
theorem k_notV (h : ta σ H fun x H1 => ∃ c, x = .bl c ∧ Q (.bl (!c)) H1) : tNotV ta σ H Q := h
theorem k_if (h : tt σ H fun c H1 => if c = true then ta σ H1 Q else tb σ H1 Q) : tIf tt ta tb σ H Q := h
theorem k_nil (h : QA [] H) : tNil σ H QA := h
theorem k_cons (h : te σ H fun x H1 => tl σ H1 fun xs H2 => QA (x :: xs) H2) : tCons te tl σ H QA := h
theorem k_tup (h : tl σ H fun xs H1 => xs.length ≤ sizeLine ∧ ∀ p, H1 p = none → Q (.ref p) (upd H1 p (.tup xs))) : tTup tl σ H Q := h
theorem k_lst (h : tl σ H fun xs H1 => xs.length ≤ sizeLine ∧ ∀ p, H1 p = none → Q (.ref p) (upd H1 p (.lst xs))) : tLst tl σ H Q := h
theorem k_call {sp : Sp} {dvs : List V} {E : XK} (h : tl σ H fun vs H1 => sp (vs ++ dvs) H1 Q E) : tCall sp dvs E tl σ H Q := h
theorem k_cb {rc : List V → Hp → VK → Prop} (h : tl σ H fun vs H1 => rc vs H1 Q) : tCB rc tl σ H Q := h
theorem k_ck {n m : Nat} {sp : Sp} {gV : List V → List V → List V} {tk : TA} (h : tl σ H fun vs H1 => tk σ H1 fun zs H2 => vs.length = n ∧ zs.length = m ∧ sp (gV vs zs) H2 Q E0) : tCK n m sp gV tl tk σ H Q := h
theorem k_par {j : Nat} (h : tl σ H fun vs H1 => ∃ v w, vs = [v, w] ∧ D.nx ((σ.set i (some v)).set j (some w)) H1) : tPar i j tl D σ H := h
theorem k_par1 {j : Nat} {v w : V} (h : D.nx ((σ.set i (some v)).set j (some w)) H) : ∃ v' w', [v, w] = [v', w'] ∧ D.nx ((σ.set i (some v')).set j (some w')) H := ⟨v, w, rfl, h⟩
theorem k_tr {b : Bool} {R : Bool → Prop} (h : R b) : ∃ k, V.bl b = .bl k ∧ R k := ⟨b, rfl, h⟩
theorem k_ite {b : Bool} {A B : Prop} (h1 : b = true → A) (h2 : b = false → B) : if b = true then A else B := by
  cases b with
  | true => exact iteT (h1 rfl)
  | false => exact iteF (h2 rfl)
theorem k_iteD {c : Prop} [Decidable c] {A B : Prop} (h1 : c → A) (h2 : ¬ c → B) : if decide c = true then A else B :=
  k_ite (fun z => h1 (of_decide_eq_true z)) fun z => h2 (of_decide_eq_false z)
theorem k_for {wi : TI} {g : TG} {tb : TS} (h : wi σ H fun J H1 => ∃ W : Nat → Nat → L2.St → Hp → Prop, (∃ m, W 0 m σ H1) ∧ ∀ i m σ H, W i m σ H →
    (J.stop i H ∧ D.nx σ H) ∨ (J.go i H ∧ ∃ N : L2.St → Hp → Prop, (∀ σ' H', N σ' H' → ∃ m', m' < m ∧ W (i + 1) m' σ' H') ∧ ∀ x H', J.yld i H x H' → g x σ H' fun σ2 H2 => tb { D with nx := N, ct := N, bk := D.nx } σ2 H2)) : tFor wi g tb D σ H := h
theorem k_iL {K : PySem.W.Frag} {R : It → Hp → Prop} (h : te σ H fun x H1 => ∃ a, x = .ref a ∧ (∃ xs, SqL K H1 a xs) ∧ R (Itl K a) H1) : iList K te σ H R := h
theorem k_iT {K : PySem.W.Frag} {R : It → Hp → Prop} (h : te σ H fun x H1 => ∃ a, x = .ref a ∧ (∃ xs, SqT K H1 a xs) ∧ R (Itt K a) H1) : iTup K te σ H R := h
theorem k_iR1 {R : It → Hp → Prop} (h : tl σ H fun vs H1 => ∃ j, vs = [.int j] ∧ -(2 ^ 62) ≤ j ∧ j < 2 ^ 62 ∧ R (Itr 0 j.toNat) H1) : iRng1 tl σ H R := h
theorem k_iR1i {R : It → Hp → Prop} {j : Int} (l : -(2 ^ 62) ≤ j ∧ j < 2 ^ 62) (h : R (Itr 0 j.toNat) H) : ∃ i, [V.int j] = [.int i] ∧ -(2 ^ 62) ≤ i ∧ i < 2 ^ 62 ∧ R (Itr 0 i.toNat) H := ⟨j, rfl, l.1, l.2, h⟩
theorem k_ble {n m : Nat} (h : Nat.ble n m = true) : n ≤ m := Nat.le_of_ble_eq_true h
theorem k_sz {n : Nat} (h : Nat.ble n 100000 = true) : n ≤ sizeLine := Nat.le_trans (Nat.le_of_ble_eq_true h) (by decide)
theorem k_rI0 {g : Int → Int → V} {i j : Int} (h : Q (g i j) H) : rI0 g (.int i) (.int j) H Q := ⟨i, j, rfl, rfl, h⟩
theorem k_rI {C : Int → Int → Prop} {g : Int → Int → V} {i j : Int} (c : C i j) (h : Q (g i j) H) : rI C g (.int i) (.int j) H Q := ⟨i, j, rfl, rfl, c, h⟩
theorem k_rU {g : Int → V} {i : Int} (h : Q (g i) H) : rU g (.int i) H Q := ⟨i, rfl, h⟩
theorem k_eq {x y : V} (s : scal x y = true) (h : Q (.bl (decide (x = y))) H) : rEq x y H Q := ⟨s, h⟩
theorem k_ne {x y : V} (s : scal x y = true) (h : Q (.bl (!decide (x = y))) H) : rNe x y H Q := ⟨s, h⟩
variable {K : PySem.W.Frag} {a : Addr} {xs : List V}
theorem k_setL {QH : Hp → Prop} {n : Int} {j : Nat} (e : H a = some (.lst xs)) (f : ixN xs.length n = some j) (h : QH (upd H a (.lst (xs.set j v)))) : rSetL (.ref a) (.int n) v H QH := ⟨a, xs, n, j, rfl, rfl, e, f, h⟩
theorem k_bm0 {T : String} {rm : V → List V → Hp → VK → Prop} (h : te σ H fun x H1 => tyV K T x H1 ∧ rm x [] H1 Q) : tBM0 K T rm te σ H Q := h
theorem k_bm {T : String} {rm : V → List V → Hp → VK → Prop} (h : te σ H fun x H1 => tyV K T x H1 ∧ tl σ H1 fun xs H2 => rm x xs H2 Q) : tBM K T rm te tl σ H Q := h
theorem k_tyL (e : H a = some (.lst xs)) : tyV K "list" (.ref a) H := .inl ⟨rfl, _, SqL.of e⟩
theorem k_pop (e : H a = some (.lst xs)) (l : xs[xs.length - 1]? = some v) (h : Q v (upd H a (.lst xs.dropLast))) : rPop (.ref a) [] H Q := ⟨a, xs, v, rfl, rfl, e, l, h⟩
theorem k_app (e : H a = some (.lst xs)) (l : xs.length < sizeLine) (h : Q .non (upd H a (.lst (xs ++ [v])))) : rAppend (.ref a) [v] H Q := ⟨a, xs, v, rfl, rfl, e, l, h⟩
theorem k_ixL {n : Int} (e : SqL K H a xs) (f : atI xs n = some v) (h : Q v H) : rIxL K (.ref a) (.int n) H Q := ⟨a, xs, n, v, rfl, rfl, e, f, h⟩
theorem k_ixT {n : Int} (e : SqT K H a xs) (f : atI xs n = some v) (h : Q v H) : rIxT K (.ref a) (.int n) H Q := ⟨a, xs, n, v, rfl, rfl, e, f, h⟩
end
section
variable {X : Cx} {K : PySem.W.Frag} {H : Hp} {Q : VK} {a : Addr} {xs : List V} {v : V}
def rLen (K : PySem.W.Frag) : List V → Hp → VK → Prop := fun xs H Q => ∃ p ys, xs = [.ref p] ∧ (SqL K H p ys ∨ SqT K H p ys) ∧ Q (.int ys.length) H
theorem c_len : CallR X (.builtin "len") (rLen X.K) := call_len_seq
theorem k_lenL (e : SqL K H a xs) (h : Q (.int xs.length) H) : rLen K [.ref a] H Q := ⟨a, xs, rfl, .inl e, h⟩
theorem k_lenT (e : SqT K H a xs) (h : Q (.int xs.length) H) : rLen K [.ref a] H Q := ⟨a, xs, rfl, .inr e, h⟩
def rList (K : PySem.W.Frag) : List V → Hp → VK → Prop := fun xs H Q => ∃ p ys, xs = [.ref p] ∧ (SqL K H p ys ∨ SqT K H p ys) ∧ ∀ l, H l = none → Q (.ref l) (upd H l (.lst ys))
theorem c_list : CallR X (.type "list") (rList X.K) := call_list_of
theorem k_listL (e : SqL K H a xs) (h : ∀ l, H l = none → Q (.ref l) (upd H l (.lst xs))) : rList K [.ref a] H Q := ⟨a, xs, rfl, .inl e, h⟩
theorem k_listT (e : SqT K H a xs) (h : ∀ l, H l = none → Q (.ref l) (upd H l (.lst xs))) : rList K [.ref a] H Q := ⟨a, xs, rfl, .inr e, h⟩
def rMax : List V → Hp → VK → Prop := fun xs H Q => ∃ i j, xs = [.int i, .int j] ∧ Q (.int (if j > i then j else i)) H
theorem c_max (hc : X.calm = true) : CallR X (.builtin "max") rMax := call_max2 hc
theorem k_max {i j : Int} (h : Q (.int (if j > i then j else i)) H) : rMax [.int i, .int j] H Q := ⟨i, j, rfl, h⟩
theorem k_ixqL {n : Int} (e : SqL K H a xs) (f : atI xs n = some v) (h : Q v H) : rIx K (.ref a) (.int n) H Q := .inl ⟨a, xs, n, v, rfl, rfl, e, f, h⟩
theorem k_ixqT {n : Int} (e : SqT K H a xs) (f : atI xs n = some v) (h : Q v H) : rIx K (.ref a) (.int n) H Q := .inr (.inl ⟨a, xs, n, v, rfl, rfl, e, f, h⟩)
theorem k_slL {lo hi : Option Int} (e : SqL K H a xs) (h : ∀ p, H p = none → Q (.ref p) (upd H p (.lst (cutV xs lo hi)))) : rSlL K (.ref a) lo hi H Q := ⟨a, xs, rfl, e, h⟩
theorem k_ltT {b : Addr} {ns ms : List Int} (e : SqT K H a (ns.map V.int)) (f : SqT K H b (ms.map V.int)) (h : Q (.bl (HT.lexLt ns ms)) H) : rLtT K (.ref a) (.ref b) H Q := ⟨a, b, ns, ms, rfl, rfl, e, f, h⟩
def rIsBb : R2 := rIsB
theorem k_isB {x y : Bool} (h : Q (.bl (decide (x = y))) H) : rIsB (.bl x) (.bl y) H Q := ⟨x, y, rfl, rfl, h⟩
theorem k_isN {x : V} {r : V → V → Hp → VK → Prop} (h : r x .non H Q) : r x .non H Q := h
variable {σ : L2.St} {te : TE} {tl th : TO} {tl' : TO} {QO : Option Int → Hp → Prop}
theorem k_sl {r : V → Option Int → Option Int → Hp → VK → Prop} (h : te σ H fun x H1 => tl σ H1 fun l H2 => th σ H2 fun u H3 => r x l u H3 Q) : tSl r te tl th σ H Q := h
theorem k_noP (h : QO none H) : tNoPart σ H QO := h
theorem k_part (h : te σ H fun x H1 => ∃ i, x = .int i ∧ QO (some i) H1) : tPart te σ H QO := h
theorem k_partI {R : Int → Prop} {i : Int} (h : R i) : ∃ j, V.int i = .int j ∧ R j := ⟨i, rfl, h⟩
theorem k_revL (h : te σ H fun x H1 => ∃ a xs, x = .ref a ∧ SqL K H1 a xs ∧ ∀ p, H1 p = none → Q (.ref p) (upd H1 p (.lst xs.reverse))) : tRevL K te σ H Q := h
/-- a > b, tuples of ints -/
def rGtT (K : PySem.W.Frag) : R2 := fun x y H Q => ∃ a b ns ms, x = .ref a ∧ y = .ref b ∧ SqT K H a (ns.map V.int) ∧ SqT K H b (ms.map V.int) ∧ Q (.bl (HT.lexLt ms ns)) H
theorem k_gtT {b : Addr} {ns ms : List Int} (e : SqT K H a (ns.map V.int)) (f : SqT K H b (ms.map V.int)) (h : Q (.bl (HT.lexLt ms ns)) H) : rGtT K (.ref a) (.ref b) H Q := ⟨a, b, ns, ms, rfl, rfl, e, f, h⟩
theorem dpAll_ints {K : PySem.W.Frag} {H : Hp} : ∀ xs : List Int, DpAll K H (xs.map V.int) (xs.map PyData.int)
  | [] => .nil
  | x :: xs => .cons (.int x) (dpAll_ints xs)
theorem alike_ints : ∀ xs ys : List Int, PySem.W.alikeAll (xs.map PyData.int) (ys.map PyData.int) = true
  | [], ys => by cases ys <;> rfl
  | _ :: _, [] => rfl
  | x :: xs, y :: ys => by
    show (true && _) = true
    rw [alike_ints xs ys]
    rfl
theorem depth_ints : ∀ xs : List Int, PyData.depthAll (xs.map PyData.int) = 0
  | [] => rfl
  | x :: xs => by
    show max 0 (PyData.depthAll (xs.map PyData.int)) = 0
    rw [depth_ints xs]
    rfl
theorem lt_ints : ∀ xs ys : List Int, PySem.W.dataLt (.tuple (xs.map PyData.int)) (.tuple (ys.map PyData.int)) = HT.lexLt xs ys
  | [], [] => by decide
  | [], y :: ys => by
    show PyProof.Rows.lexLt itemOrd (PySem.W.keyToksAll []) (PySem.W.keyToksAll (PyData.int y :: _)) = true
    rw [PySem.W.toks_all_cons]
    exact (lex_diff (O := itemOrd) (by decide)).trans (by decide)
  | x :: xs, [] => by
    show PyProof.Rows.lexLt itemOrd (PySem.W.keyToksAll (PyData.int x :: _)) (PySem.W.keyToksAll []) = false
    rw [PySem.W.toks_all_cons]
    exact (lex_diff (O := itemOrd) (by decide)).trans (by decide)
  | x :: xs, y :: ys => by
    show PyProof.Rows.lexLt itemOrd (PySem.W.keyToksAll (PyData.int x :: _)) (PySem.W.keyToksAll (PyData.int y :: _)) = (if x = y then HT.lexLt xs ys else decide (x < y))
    by_cases e : x = y
    · subst e
      rw [if_pos rfl, PySem.W.dataLt_all_yes rfl (by simp [PyData.eqv])]
      exact lt_ints xs ys
    · rw [if_neg e, PySem.W.dataLt_all_no rfl (by simpa [PyData.eqv] using e)]
      exact PySem.W.dataLt_int x y
theorem op_gtT {X : Cx} (hu : X.A.units + 64 < cLine) : OpR X (compareOp .Gt) (rGtT X.K) := by
  intro pins s σ H x y v u Q I rx ry h
  obtain ⟨a, b, ns, ms, rfl, rfl, ha, hb, q⟩ := h
  obtain ⟨as, r1⟩ := Dp.reads I (.tuple (ns.map PyData.int)) (.ref a) v (.tup ha (dpAll_ints ns)) rx
  obtain ⟨bs, r2⟩ := Dp.reads I (.tuple (ms.map PyData.int)) (.ref b) u (.tup hb (dpAll_ints ms)) ry
  refine PySem.W.gt_data r1 r2 (alike_ints ns ms) (fun z => by cases z) ?_ ⟨.bl _, H, I, rfl, ?_⟩
  · show X.A.units + min (PyData.depthAll (ns.map PyData.int) + 1) _ < cLine
    rw [depth_ints]
    omega
  · rw [lt_ints]
    exact q
end
theorem atI_head {α : Type} {x : α} {xs : List α} : atI (x :: xs) 0 = some x := atI_nat (j := 0) (xs := x :: xs) rfl
/-! what is known is known behind a step -/
theorem lk_new {H : Hp} {a p : Addr} {o u : HO} (h : H a = some u) (n : H p = none) : upd H p o a = some u := (upd_ne (ne_of_none h n)).trans h
theorem lk_ext {M : Addr → Prop} {H H' : Hp} {a : Addr} {xs : List V} (e : Ext M H H') (h : H a = some (.tup xs)) : H' a = some (.tup xs) := e.1 a xs h
theorem lk_same {H H' : Hp} {a : Addr} {o : HO} (e : Same H H') (h : H a = some o) : H' a = some o := e a o h
end Own

set_option Elab.async false
set_option maxRecDepth 100000
/-! instances of own classes: in, len, methods by keywords, errors with fields -/
namespace Own
open PySem PySem.Spec PyProof.Rows L2

theorem k_yes {σ : L2.St} {H : Hp} {A B : Hp → Prop} (h : A H) : tYes σ H (fun b H' => if b = true then A H' else B H') := by
  show (if true = true then A H else B H)
  rw [if_pos rfl]
  exact h
theorem k_szL {n : Nat} (h : n < 100000) : n < sizeLine := by
  rw [sizeLine_eq]
  omega
section
variable {X : Cx} {Z : CXT} {k : Nat} {C f : Addr} {sp : Sp} {E : XK}
/-- x in o, o an instance whose class has its own __contains__ -/
theorem own_in {pins : List (Addr × Obj)} {σ : L2.St} {H : Hp} {s : Shared} {a dx : Addr} {fs : List (Str × V)} {x : V} {u : Value} {Q : Bool → Hp → Prop}
    (hs : PySem.W.findIn X.K (.ref C) "__contains__" = some (some (.ref f))) (hf : PySem.W.typeIn X.K (.ref f) = some (.type "function"))
    (F : FnR X.prog X.w X.K X.mg X.base Z k f sp) (room : Room k X.A) (px : Passes Z X E) (I : Inv X pins σ H s) (ea : H a = some (.ins C dx fs)) (rx : RelV x u)
    (h : sp [.ref a, x] H (fun v H' => ∃ b, v = .bl b ∧ Q b H') E) :
    wpAny (model X.prog X.w) X.A (contains (.ref a) u) (TP X pins σ Q) X.xe s := by
  obtain ⟨mA, O, _, _, _, _⟩ := ins_get I.hok ea
  obtain ⟨od, J, _⟩ := O.look
  unfold contains
  refine wpAny_holding ?_
  rw [stdlibNamesSay?_ref]
  dsimp only
  refine wpAny_bind (m := specialOf (.ref a) "__contains__") ?_
  unfold specialOf
  refine wpAny_bind (J.type.here ((PySem.W.looks_findIn I.kIn hs).here ?_))
  rw [show ((some (Value.ref f) : Option Value) == some Value.none) = false from rfl]
  rw [if_neg Bool.false_ne_true]
  refine wpAny_bind ?_
  unfold callSpecialUnlessNone? specialOf
  refine wpAny_bind (wpAny_bind (J.type.here ((PySem.W.looks_findIn I.kIn hs).here ?_)))
  dsimp only
  refine wpAny_holding (wpAny_bind ((PySem.W.bind_fn I.kIn _ hf).here ?_))
  rw [show ((Value.ref f) == Value.none) = false from rfl]
  rw [if_neg Bool.false_ne_true]
  refine wpAny_bind (wpAny_mono (wpAny_call (run_fnR (us := [.ref a, u]) (vs := [.ref a, x]) F room px I (.cons rfl (.cons rx .nil)) h)) (fun r s' z => ?_) fun _ _ z => z)
  obtain ⟨v, H', I', rv, b, rfl, q⟩ := z
  cases rv
  exact wpAny_pure (wpAny_truthy_bool ⟨H', I', q⟩)
def rInO (C : Addr) (sp : Sp) (E : XK) (g : Bool → Bool) : R2 := fun x y H Q => ∃ a dx fs, y = .ref a ∧ H a = some (.ins C dx fs) ∧ sp [.ref a, x] H (fun v H' => ∃ b, v = .bl b ∧ Q (.bl (g b)) H') E
theorem op_inO (hs : PySem.W.findIn X.K (.ref C) "__contains__" = some (some (.ref f))) (hf : PySem.W.typeIn X.K (.ref f) = some (.type "function"))
    (F : FnR X.prog X.w X.K X.mg X.base Z k f sp) (room : Room k X.A) (px : Passes Z X E) : OpR X (compareOp .In) (rInO C sp E fun b => b) := by
  intro pins s σ H x y v u Q I rx ry h
  obtain ⟨a, dx, fs, rfl, ea, q⟩ := h
  obtain rfl : u = Value.ref a := ry
  refine wpAny_bind (wpAny_mono (own_in (Q := fun b H' => Q (.bl b) H') hs hf F room px I ea rx q) (fun b s' z => ?_) fun _ _ z => z)
  obtain ⟨H', I', q'⟩ := z
  exact wpAny_pure ⟨.bl b, H', I', rfl, q'⟩
theorem op_notInO (hs : PySem.W.findIn X.K (.ref C) "__contains__" = some (some (.ref f))) (hf : PySem.W.typeIn X.K (.ref f) = some (.type "function"))
    (F : FnR X.prog X.w X.K X.mg X.base Z k f sp) (room : Room k X.A) (px : Passes Z X E) : OpR X (compareOp .NotIn) (rInO C sp E fun b => !b) := by
  intro pins s σ H x y v u Q I rx ry h
  obtain ⟨a, dx, fs, rfl, ea, q⟩ := h
  obtain rfl : u = Value.ref a := ry
  refine wpAny_bind (wpAny_mono (own_in (Q := fun b H' => Q (.bl (!b)) H') hs hf F room px I ea rx q) (fun b s' z => ?_) fun _ _ z => z)
  obtain ⟨H', I', q'⟩ := z
  exact wpAny_pure ⟨.bl (!b), H', I', rfl, q'⟩

/-- a callee, run below the running body -/
theorem atRun {pins : List (Addr × Obj)} {σ : L2.St} {H : Hp} {s : Shared} {B : Around} {Q : VK} {us : List Value} {vs : List V} (F : FnR X.prog X.w X.K X.mg X.base Z k f sp) (room : Room k B)
    (e0 : Env0 X.prog X.w X.K X.mg X.base B X.stack s H) (px : Passes Z X E) (I : Inv X pins σ H s) (rv : Vals vs us) (q : sp vs H Q E) :
    wpAny (model X.prog X.w) B (call (.ref f) us) (EP X pins σ Q) X.xe s := by
  refine wpAny_call (codeAny_mono (F B X.stack s H us vs Q E room e0 rv q) ?_)
  intro r s' z
  match r, z with
  | .error e, z => exact px pins σ H s e s' I z
  | .ok (.ret u), z => exact I.after z
  | .ok .next, z => exact z.elim
  | .ok .brk, z => exact z.elim
  | .ok .cont, z => exact z.elim
/-- len(o), o an instance whose class has its own __len__ -/
def rLenO (C : Addr) (sp : Sp) (E : XK) : List V → Hp → VK → Prop := fun xs H Q => ∃ a dx fs, xs = [.ref a] ∧ H a = some (.ins C dx fs) ∧
  sp [.ref a] H (fun v H' => ∃ n : Nat, v = .int n ∧ n ≤ sizeLine ∧ Q (.int n) H') E
theorem call_lenO (hs : PySem.W.findIn X.K (.ref C) "__len__" = some (some (.ref f))) (hf : PySem.W.typeIn X.K (.ref f) = some (.type "function"))
    (F : FnR X.prog X.w X.K X.mg X.base Z k f sp) (room : Room (k + 1) X.A) (px : Passes Z X E) : CallR X (.builtin "len") (rLenO C sp E) := by
  intro pins s σ H xs us Q I r h
  obtain ⟨a, dx, fs, rfl, ea, q⟩ := h
  obtain ⟨u, rfl, ru⟩ := r.one
  obtain rfl : u = Value.ref a := ru
  obtain ⟨mA, O, _, _, _, _⟩ := ins_get I.hok ea
  obtain ⟨od, J, _⟩ := O.look
  refine Calls.call_function_entry kind_len plain_len entry_len (args_len1 _) ?_
  unfold Builtin.«len»
  refine wpAny_bind (m := oneArg "len" _) (wpAny_pure ?_)
  refine wpAny_bind (m := callSpecial? (.ref a) (Str.ofString "__len__")) (PySem.W.special_fn (args := []) I.kIn J hs hf (wpAny_mono (atRun (us := [.ref a]) (vs := [.ref a]) F room.in1 I.env0.in1 px I (.cons rfl .nil) q) (fun r s' z => ?_) fun _ _ z => z))
  obtain ⟨v, H', I', rv, n, rfl, hn, qn⟩ := z
  obtain ⟨t, rfl⟩ := rv
  rw [sizeLine_eq] at hn
  refine wpAny_bind (wpAny_holding (wpAny_pure ?_))
  refine wpAny_bind (wpAny_letGo ?_)
  show wpAny _ _ (if (n : Int) < 0 then _ else _) _ _ _
  rw [if_neg (by omega)]
  show wpAny _ _ (if (n : Int) ≥ 2 ^ 63 then _ else _) _ _ _
  rw [if_neg (by omega)]
  exact wpAny_bind (wpAny_mkInt (wpAny_pure ⟨_, rfl, .int n, H', I'.tok _, ⟨_, rfl⟩, qn⟩))
end

/-! ### methods by keywords, and such as may raise -/
section
variable {X : Cx} {Z : CXT} {k n : Nat} {C f : Addr} {fd : FuncData} {ps ks : List Str} {sp : Sp} {m : Str} {pos apos : Pos} {o e : Expr} {es : List Expr} {kws : List Keyword} {to : TE} {t tk : TA}
  {g : List Value → List Value → List Value} {gV : List V → List V → List V} {E : L2.St → XK} {pl : Sem Bool}
/-- o.m(e, .., k = v, ..): n positional values with self, mm keywords -/
def tMK (C : Addr) (m : Str) (n mm : Nat) (sp : Sp) (gV : List V → List V → List V) (E : L2.St → XK) (to : TE) (t tk : TA) : TE := fun σ H Q =>
  to σ H fun x H1 => ∃ a dx fs, x = .ref a ∧ H1 a = some (.ins C dx fs) ∧ fs.lookup m = none ∧ t σ H1 fun vs H2 => tk σ H2 fun zs H3 => (V.ref a :: vs).length = n ∧ zs.length = mm ∧ sp (gV (.ref a :: vs) zs) H3 Q (E σ)
theorem runK {pins : List (Addr × Obj)} {σ : L2.St} {H : Hp} {s : Shared} {Q : VK} {us ws : List Value} {vs zs : List V} (F : FnOk X.prog X.w X.K X.mg X.base Z k f fd ps sp) (room : Room k X.A) (kb : KBn X.K fd ps n ks g gV)
    (px : PassesAt Z X σ (E σ)) (I : Inv X pins σ H s) (rv : Vals vs us) (rz : Vals zs ws) (l1 : vs.length = n) (l2 : zs.length = ks.length) (q : sp (gV vs zs) H Q (E σ)) :
    wpAny (model X.prog X.w) X.A (call (.ref f) us (ks.zip ws)) (EP X pins σ Q) X.xe s := by
  have rr := kb.rel rv rz
  have cc := F.run X.A X.stack s H ⟨us, ks.zip ws⟩ (g us ws) (gV vs zs) Q (E σ) room I.env0 (kb.to s us ws I.kIn (rv.length.symm.trans l1) (rz.length.symm.trans l2)) rr q
  refine wpAny_call (codeAny_mono cc ?_)
  intro r s' z
  match r, z with
  | .error e, z => exact px pins H s e s' I z
  | .ok (.ret u), z => exact I.after z
  | .ok .next, z => exact z.elim
  | .ok .brk, z => exact z.elim
  | .ok .cont, z => exact z.elim
/-- with some positional arguments -/
theorem pe_mk1 (he : PE X o to) (c : Cls X.K C) (hm : Meth X.K C m f) (F : FnOk X.prog X.w X.K X.mg X.base Z k f fd ps sp) (room : Room k X.A) (kb : KBn X.K fd ps n ks g gV) (px : ∀ σ, PassesAt Z X σ (E σ))
    (pa : PA X (e :: es) t) (pk : PK X kws tk) (all : (backToKw pos (keywordEach kws X.env)).all (·.1.isSome) = true := by rfl) (nm : (backToKw pos (keywordEach kws X.env)).filterMap (·.1) = ks := by rfl)
    (st : starEach (e :: es) X.env = (false, eval e X.env) :: starEach es X.env := by rfl)
    (pn : ((backTo pos (starEach (e :: es) X.env)).any (·.1) || (backToKw pos (keywordEach kws X.env)).any (·.1.isNone)) = false := by rfl)
    (form : eval (.Call (.Attribute o m apos) (e :: es) kws pos) X.env = (do
      let ov ← eval o X.env
      standAt apos.atName
      let (f, first) ← holding [ov] (getMethod ov m pl)
      callWith pos f first (backTo pos (starEach (e :: es) X.env)) (backToKw pos (keywordEach kws X.env))) := by rfl) :
    PE X (.Call (.Attribute o m apos) (e :: es) kws pos) (tMK C m n ks.length sp gV E to t tk) := by
  constructor
  intro pins s σ H Q I h
  refine PySem.W.methodCall_KW (pl := pl) (thn (he.run pins s σ H _ I h) fun u s1 ⟨x, H1, I1, rx, a, dx, fs, ex, ea, l, q⟩ => ?_) form
  subst ex
  obtain rfl : u = Value.ref a := rx
  refine getmeth_ok I1 ea c hm l (PySem.W.callWith_KW (first := [.ref a]) (h₀ := X.base) I.ok.mod.kin hm.kp all (thn (pa.run pos pins s1 σ H1 _ I1 q) fun us s2 ⟨vs, H2, I2, rv, q2⟩ => ?_) pn st)
  refine thn (pk.run pos pins s2 σ H2 _ I2 q2) fun ws s3 ⟨zs, H3, I3, rz, l1, l2, q3⟩ => ⟨I3.kIn, ?_⟩
  rw [nm]
  exact runK (us := .ref a :: us) (vs := .ref a :: vs) F room kb (px σ) I3 (.cons rfl rv) rz l1 l2 q3
/-- keywords alone -/
theorem pe_mk0 (he : PE X o to) (c : Cls X.K C) (hm : Meth X.K C m f) (F : FnOk X.prog X.w X.K X.mg X.base Z k f fd ps sp) (room : Room k X.A) (kb : KBn X.K fd ps n ks g gV) (px : ∀ σ, PassesAt Z X σ (E σ))
    (pk : PK X kws tk) (all : (backToKw pos (keywordEach kws X.env)).all (·.1.isSome) = true := by rfl) (nm : (backToKw pos (keywordEach kws X.env)).filterMap (·.1) = ks := by rfl)
    (pn : ((backTo pos (starEach [] X.env)).any (·.1) || (backToKw pos (keywordEach kws X.env)).any (·.1.isNone)) = false := by rfl)
    (form : eval (.Call (.Attribute o m apos) [] kws pos) X.env = (do
      let ov ← eval o X.env
      standAt apos.atName
      let (f, first) ← holding [ov] (getMethod ov m pl)
      callWith pos f first (backTo pos (starEach [] X.env)) (backToKw pos (keywordEach kws X.env))) := by rfl) :
    PE X (.Call (.Attribute o m apos) [] kws pos) (tMK C m n ks.length sp gV E to tNil tk) := by
  constructor
  intro pins s σ H Q I h
  refine PySem.W.methodCall_KW (pl := pl) (thn (he.run pins s σ H _ I h) fun u s1 ⟨x, H1, I1, rx, a, dx, fs, ex, ea, l, q⟩ => ?_) form
  subst ex
  obtain rfl : u = Value.ref a := rx
  refine getmeth_ok I1 ea c hm l (PySem.W.callWith_KW0 (first := [.ref a]) (h₀ := X.base) I.ok.mod.kin hm.kp all ?_ pn)
  refine thn (pk.run pos pins s1 σ H1 _ I1 q) fun ws s3 ⟨zs, H3, I3, rz, l1, l2, q3⟩ => ⟨I3.kIn, ?_⟩
  rw [nm]
  exact runK (us := [.ref a]) (vs := [.ref a]) F room kb (px σ) I3 (.cons rfl .nil) rz l1 l2 q3
/-- o.m(e, ..), which may raise -/
def tMS (C : Addr) (m : Str) (sp : Sp) (E : L2.St → XK) (to : TE) (t : TA) : TE := fun σ H Q =>
  to σ H fun x H1 => ∃ a dx fs, x = .ref a ∧ H1 a = some (.ins C dx fs) ∧ fs.lookup m = none ∧ t σ H1 fun vs H2 => sp (.ref a :: vs) H2 Q (E σ)
theorem pe_ms (he : PE X o to) (c : Cls X.K C) (hm : Meth X.K C m f) (F : FnOk X.prog X.w X.K X.mg X.base Z k f fd ps sp) (room : Room k X.A) (b : Binds X.K fd ps []) (px : ∀ σ, PassesAt Z X σ (E σ)) (pa : PA X (e :: es) t)
    (st : starEach (e :: es) X.env = (false, eval e X.env) :: starEach es X.env := by rfl) (pn : (backTo pos (starEach es X.env)).any (·.1) = false := by rfl)
    (form : eval (.Call (.Attribute o m apos) (e :: es) [] pos) X.env = (do
      let ov ← eval o X.env
      standAt apos.atName
      let (f, first) ← holding [ov] (getMethod ov m pl)
      callWith pos f first (backTo pos (starEach (e :: es) X.env)) (backToKw pos (keywordEach [] X.env))) := by rfl) :
    PE X (.Call (.Attribute o m apos) (e :: es) [] pos) (tMS C m sp E to t) := by
  constructor
  intro pins s σ H Q I h
  refine PySem.W.methodCall_KW (pl := pl) (thn (he.run pins s σ H _ I h) fun u s1 ⟨x, H1, I1, rx, a, dx, fs, ex, ea, l, q⟩ => ?_) form
  subst ex
  obtain rfl : u = Value.ref a := rx
  refine getmeth_ok I1 ea c hm l (PySem.W.callWith_K (first := [.ref a]) (h₀ := X.base) I.ok.mod.kin hm.kp (thn (pa.run pos pins s1 σ H1 _ I1 q) fun us s2 ⟨vs, H2, I2, rv, q2⟩ => ⟨I2.kIn, ?_⟩) st pn)
  exact run_fnS (us := .ref a :: us) (vs := .ref a :: vs) F room b (px σ) I2 (.cons rfl rv) q2
end

/-! ### isinstance of an error that has fields -/
section
open PySem.W
variable {prog : Program} {w : World} {A : Around} {E : Value → Shared → Prop} {s : Shared} {K : Frag} {x D : Addr} {ox : Obj} {od : Option Obj}
theorem err_class {Q : Option Value → Shared → Prop} (T : ExcC K D) (hf : findObj K D od "__class__" = some (.bind (.builtin "getset_descriptor.__get__") (.builtin "object.__class__"))) (kin : K.In s.heap)
    (J : InstAt s.heap x ox D od) (h : Q (some (.ref D)) { s with toks := s.toks + 1 }) : wpAny (model prog w) A (getAttr? (.ref x) "__class__") Q E s := by
  obtain ⟨hp, g, d, t, os⟩ := s
  have ty := J.type (M := model prog w)
  have own := looks_findIn (M := model prog w) kin T.hg
  have no := looks_findIn (M := model prog w) kin T.hk
  have fnd := looks_find (M := model prog w) kin J hf
  have base : Looks (model prog w) hp (isInstance (.ref x) (.type "BaseException")) true := ty.andThen (looks_subIn kin T.hs)
  have b1 : (Value.builtin "BaseException.__getattribute__" == Value.builtin "object.__getattribute__") = false := by decide +kernel
  have b2 : (onTheHeap (Value.ref D) && Value.builtin "BaseException.__getattribute__" == Value.builtin "object.__getattribute__") = false := by
    rw [b1]
    rfl
  unfold getAttr? getAttrBy? getAttrBy
  refine wpAny_bind (wpAny_mkText (wpAny_bind (wpAny_attempt (wpAny_holding (wpAny_bind (ty.at (wpAny_bind (own.at ?_))))))))
  show wpAny _ _ (if (onTheHeap (Value.ref D) && Value.builtin "BaseException.__getattribute__" == Value.builtin "object.__getattribute__") = true then _ else _) _ _ _
  rw [if_neg (by rw [b2]; exact Bool.false_ne_true)]
  unfold getAttrByItsOwn hookBefore
  refine wpAny_bind ?_
  rw [if_pos (show onTheHeap (Value.ref D) = true from rfl)]
  refine no.at (wpAny_bind (wpAny_attempt (wpAny_holding ?_)))
  unfold callGetattribute
  rw [if_neg (show ¬ (false && onTheHeap (Value.builtin "BaseException.__getattribute__")) = true from Bool.false_ne_true)]
  unfold boundAndCalled
  rw [PySem.F.excAttr_ValueError.ga.bind (.ref x)]
  refine wpAny_bind (wpAny_pure ?_)
  show wpAny _ _ (call (.builtin "BaseException.__getattribute__") [.ref x, .str "__class__" t]) _ _ _
  refine wpAny_call (codeAny_call_builtin PySem.F.excAttr_ValueError.ga.plain PySem.F.entry_bexc_ga (@check_slot (model prog w) _ _ ⟨hp, g, d, t + 1, os⟩ "BaseException.__getattribute__" "BaseException" "__getattribute__" (.ref x) [.str "__class__" t] [] _ (by decide +kernel) (by decide +kernel) base (PySem.F.args_bexc_ga (.ref x) (.str "__class__" t)) ?_))
  unfold Builtin.«object.__getattribute__»
  refine wpAny_bind (wpAny_of_eq (a := ((Value.ref x : Value), [Value.str "__class__" t])) (by first | rfl | (simp only [slotArgs]; rfl)) ?_)
  refine wpAny_bind (wpAny_pure (wpAny_bind (ty.at (wpAny_bind (fnd.at ?_)))))
  show wpAny _ _ (holding [Value.builtin "object.__class__"] (call (.builtin "getset_descriptor.__get__") [.builtin "object.__class__", .ref x, .ref D]) >>= ret) _ _ _
  refine wpAny_bind (wpAny_holding (wpAny_call (class_get (s := ⟨hp, g, d, t + 1, os⟩) (ox := ox) (od := od) kin J T.hm (wpAny_pure ?_))))
  show wpAny _ _ (handedOut (.ref D)) _ _ _
  rw [handedOut_of (v := .ref D) rfl]
  first
    | exact wpAny_pure (wpAny_pure h)
    | exact wpAny_pure h
    | exact wpAny_pure (wpAny_bind (wpAny_pure (wpAny_pure h)))
end
section
theorem err_kit {K : PySem.W.Frag} {a D : Addr} {oe : Obj} {od : Option Obj} (T : ExcC K D) (hf : PySem.W.findObj K D od "__class__" = some (.bind (.builtin "getset_descriptor.__get__") (.builtin "object.__class__"))) :
    PySem.W.KitX K (.ref a) (.ref D) (fun h => PySem.W.InstAt h a oe D od) where
  ty := fun _ _ _ J => J.type
  ca := fun kin J k => err_class T hf kin J k
  it := fun _ h kin _ => by
    obtain ⟨cd, hc, _⟩ := PySem.W.any_some T.hd
    unfold PySem.W.clsIn at hc
    split at hc
    · rename_i c' d' cd' sl' ho
      intro A' Q' E' s' keep q
      unfold isType loadHead
      exact wpAny_bind (wpAny_loadPart (keep _ _ (kin _ _ ho)) (wpAny_pure q))
    · cases hc
  ne := fun h tp dd its n sl kin htp => by
    obtain ⟨cd, hc, _⟩ := PySem.W.any_some T.hd
    rw [beq_eq_false_iff_ne]
    intro e
    obtain rfl := Value.ref.inj e
    unfold PySem.W.clsIn at hc
    split at hc
    · rename_i c' d' cd' sl' ho
      have z := (kin _ _ ho).symm.trans htp
      cases z
    · cases hc
/-- isinstance(e, c), e the error that the suite holds, with its fields -/
def rIsEF (K : PySem.W.Frag) (D a : Addr) (cls : Value) (d : Option Addr) : List V → Hp → VK → Prop := fun xs H Q => ∃ (dd : Addr) (fs : List (Str × V)) (c : V) (cv : Value) (b : Bool),
  cls = .ref D ∧ d = some dd ∧ H dd = some (.xd fs) ∧ xs = [.ref a, c] ∧ (∀ u, RelV c u → u = cv) ∧ PySem.W.kitOne K (.ref D) cv = some b ∧ Q (.bl b) H
theorem call_isEF {X : Cx} {a D : Addr} {oe : Obj} {cls : Value} {d : Option Addr} {pn : List (Addr × Obj)} (T : ExcC X.K D) (hz : Zc cls d oe) (hf : ∃ vs, oe.data = .fields vs) :
    CallR (X.suite a ((a, oe) :: pn)) (.builtin "isinstance") (rIsEF X.K D a cls d) := by
  intro pins s σ H xs us Q I r h
  obtain ⟨dd, fs, c, cv, b, rfl, rfl, hd, rfl, hcv, e, q⟩ := h
  match r with
  | .cons rx (.cons rt .nil) =>
    cases rx
    obtain rfl := hcv _ rt
    obtain ⟨hget, _⟩ := I.pin (a, oe) (List.mem_append_left _ List.mem_cons_self)
    obtain ⟨vs, hv⟩ := hf
    have hx : ObjOk X.prog X.w H s.heap dd (.xd fs) := I.hok dd _ hd
    obtain ⟨mA, hns, _⟩ := hx
    obtain ⟨od, ho, _⟩ := lookIn_ns hns
    have J : PySem.W.InstAt s.heap a oe D (some od) := ⟨hget, hz.1, by unfold PySem.W.notCls; rw [hv] <;> rfl, by rw [hz.2]; exact ho⟩
    have hc : (PySem.W.clsIn X.K D).isSome = true := by
      obtain ⟨cd, hc, _⟩ := PySem.W.any_some T.hd
      rw [hc]
      rfl
    exact PySem.W.kia_one (err_kit T (PySem.W.findObj_data hc T.ha T.hn T.ht)) I.kIn J e (fun z => nomatch z) fun tk => ⟨.bl b, H, I.kept (t' := tk) fun _ _ z => z, rfl, q⟩
end
end Own

set_option Elab.async false
set_option maxRecDepth 100000
/-! generator methods by keywords; sorted, min and max of lists of data -/
namespace Own
open PySem PySem.Spec PyProof.Rows L2

/-! ### list(o.m(.., k = v)), m a generator -/
section
variable {X : Cx} {k n : Nat} {C f : Addr} {fd : FuncData} {ps ks : List Str} {sp : SpG} {m : Str} {pos apos : Pos} {o e : Expr} {es : List Expr} {kws : List Keyword} {to : TE} {t tk : TA}
  {g : List Value → List Value → List Value} {gV : List V → List V → List V} {E : XK} {pl : Sem Bool}
theorem run_gK {pins : List (Addr × Obj)} {σ : L2.St} {H : Hp} {s : Shared} {us ws : List Value} {vs zs : List V} {cont : List V → Hp → Prop} {E1 : Value → Shared → Prop} (F : GFn X.prog X.w X.K X.mg X.base k f fd ps sp) (hr : Room k X.A)
    (kb : KBn X.K fd ps n ks g gV) (I : Inv X pins σ H s) (rv : Vals vs us) (rz : Vals zs ws) (l1 : vs.length = n) (l2 : zs.length = ks.length) (h : sp (gV vs zs) H cont E) :
    wpAny (model X.prog X.w) X.A (call (.ref f) us (ks.zip ws)) (fun u s' => ∃ H1 sc ex, Inv X pins σ H1 sc ∧ ExOk X pins ex ∧ GMade X.prog X.w k X.stack H1 sc ex cont E u s') E1 s := by
  refine wpAny_call (codeAny_mono (F.run X.A X.stack s H ⟨us, ks.zip ws⟩ (g us ws) (gV vs zs) cont E hr I.env0 (kb.to s us ws I.kIn (rv.length.symm.trans l1) (rz.length.symm.trans l2)) (kb.rel rv rz) h) fun r s' hq => ?_)
  match r, hq with
  | .error e, hq => exact hq.elim
  | .ok (.ret u), hq => exact ⟨H, s, [], I, .nil, hq⟩
  | .ok .next, hq => exact hq.elim
  | .ok .brk, hq => exact hq.elim
  | .ok .cont, hq => exact hq.elim
def tMGK (C : Addr) (m : Str) (n mm : Nat) (sp : SpG) (gV : List V → List V → List V) (E : XK) (to : TE) (t tk : TA) : TGen := fun σ H cont => to σ H fun x H1 => ∃ a dx fs, x = .ref a ∧ H1 a = some (.ins C dx fs) ∧ fs.lookup m = none ∧
  t σ H1 fun vs H2 => tk σ H2 fun zs H3 => (V.ref a :: vs).length = n ∧ zs.length = mm ∧ sp (gV (.ref a :: vs) zs) H3 cont E
theorem pgen_mk1 (he : PE X o to) (c : Cls X.K C) (hm : Meth X.K C m f) (F : GFn X.prog X.w X.K X.mg X.base k f fd ps sp) (hr : Room k X.A) (kb : KBn X.K fd ps n ks g gV) (pa : PA X (e :: es) t) (pk : PK X kws tk)
    (all : (backToKw pos (keywordEach kws X.env)).all (·.1.isSome) = true := by rfl) (nm : (backToKw pos (keywordEach kws X.env)).filterMap (·.1) = ks := by rfl)
    (st : starEach (e :: es) X.env = (false, eval e X.env) :: starEach es X.env := by rfl)
    (pn : ((backTo pos (starEach (e :: es) X.env)).any (·.1) || (backToKw pos (keywordEach kws X.env)).any (·.1.isNone)) = false := by rfl)
    (form : eval (.Call (.Attribute o m apos) (e :: es) kws pos) X.env = (do
      let ov ← eval o X.env
      standAt apos.atName
      let (f, first) ← holding [ov] (getMethod ov m pl)
      callWith pos f first (backTo pos (starEach (e :: es) X.env)) (backToKw pos (keywordEach kws X.env))) := by rfl) :
    PGen X k (.Call (.Attribute o m apos) (e :: es) kws pos) (tMGK C m n ks.length sp gV E to t tk) E := by
  constructor
  intro pins s σ H cont I h
  refine PySem.W.methodCall_KW (pl := pl) (thn (he.run pins s σ H _ I h) fun u s1 ⟨x, H1, I1, rx, a, dx, fs, ex, ea, l, q⟩ => ?_) form
  subst ex
  obtain rfl : u = Value.ref a := rx
  refine getmeth_ok I1 ea c hm l (PySem.W.callWith_KW (first := [.ref a]) (h₀ := X.base) I.ok.mod.kin hm.kp all (thn (pa.run pos pins s1 σ H1 _ I1 q) fun us s2 ⟨vs, H2, I2, rv, q2⟩ => ?_) pn st)
  refine thn (pk.run pos pins s2 σ H2 _ I2 q2) fun ws s3 ⟨zs, H3, I3, rz, l1, l2, q3⟩ => ⟨I3.kIn, ?_⟩
  rw [nm]
  exact run_gK (us := .ref a :: us) (vs := .ref a :: vs) F hr kb I3 (.cons rfl rv) rz l1 l2 q3
theorem pgen_mk0 (he : PE X o to) (c : Cls X.K C) (hm : Meth X.K C m f) (F : GFn X.prog X.w X.K X.mg X.base k f fd ps sp) (hr : Room k X.A) (kb : KBn X.K fd ps n ks g gV) (pk : PK X kws tk)
    (all : (backToKw pos (keywordEach kws X.env)).all (·.1.isSome) = true := by rfl) (nm : (backToKw pos (keywordEach kws X.env)).filterMap (·.1) = ks := by rfl)
    (pn : ((backTo pos (starEach [] X.env)).any (·.1) || (backToKw pos (keywordEach kws X.env)).any (·.1.isNone)) = false := by rfl)
    (form : eval (.Call (.Attribute o m apos) [] kws pos) X.env = (do
      let ov ← eval o X.env
      standAt apos.atName
      let (f, first) ← holding [ov] (getMethod ov m pl)
      callWith pos f first (backTo pos (starEach [] X.env)) (backToKw pos (keywordEach kws X.env))) := by rfl) :
    PGen X k (.Call (.Attribute o m apos) [] kws pos) (tMGK C m n ks.length sp gV E to tNil tk) E := by
  constructor
  intro pins s σ H cont I h
  refine PySem.W.methodCall_KW (pl := pl) (thn (he.run pins s σ H _ I h) fun u s1 ⟨x, H1, I1, rx, a, dx, fs, ex, ea, l, q⟩ => ?_) form
  subst ex
  obtain rfl : u = Value.ref a := rx
  refine getmeth_ok I1 ea c hm l (PySem.W.callWith_KW0 (first := [.ref a]) (h₀ := X.base) I.ok.mod.kin hm.kp all ?_ pn)
  refine thn (pk.run pos pins s1 σ H1 _ I1 q) fun ws s3 ⟨zs, H3, I3, rz, l1, l2, q3⟩ => ⟨I3.kIn, ?_⟩
  rw [nm]
  exact run_gK (us := [.ref a]) (vs := [.ref a]) F hr kb I3 (.cons rfl .nil) rz l1 l2 q3
end

/-! ### sorted(xs), xs data -/
section
variable {X : Cx}
open PySem.W in
theorem eachV {pins : List (Addr × Obj)} {σ : L2.St} {H : Hp} {s : Shared} (I : Inv X pins σ H s) : ∀ {bs : List (V × PyData)} {its : List Value}, Vals (bs.map (·.1)) its → (∀ b ∈ bs, Dp X.K H b.1 b.2) →
    EachIs (fun v (b : V × PyData) => RelV b.1 v) its bs ∧ EachIs (fun v (b : V × PyData) => ∃ as, Reads s.heap v b.2 as) its bs
  | [], _, r, _ => by
    cases r
    exact ⟨.nil, .nil⟩
  | b :: bs, _, r, h => by
    rw [List.map_cons] at r
    cases r with
    | cons r1 r2 =>
      obtain ⟨a1, a2⟩ := eachV I r2 fun c hc => h c (List.mem_cons_of_mem _ hc)
      exact ⟨.cons r1 a1, .cons (Dp.reads I b.2 b.1 _ (h b List.mem_cons_self) r1) a2⟩
open PySem.W in
theorem eachVals : ∀ {bs : List (V × PyData)} {its : List Value}, EachIs (fun v (b : V × PyData) => RelV b.1 v) its bs → Vals (bs.map (·.1)) its
  | _, _, .nil => .nil
  | _, _, .cons a b => .cons a (eachVals b)
/-- bs: the items with what they read as -/
def rSortedD (K : PySem.W.Frag) : List V → Hp → VK → Prop := fun xs H Q => ∃ (a : Addr) (bs : List (V × PyData)), xs = [.ref a] ∧ SqL K H a (bs.map (·.1)) ∧ (∀ b ∈ bs, Dp K H b.1 b.2 ∧ b.2.depth ≤ 50) ∧ PySem.W.AllAlike (bs.map (·.2)) ∧ PySem.W.Sortable (bs.map (·.2)) ∧
  ∀ p, H p = none → Q (.ref p) (upd H p (.lst ((bs.mergeSort (PySem.W.dataLe false fun b : V × PyData => b.2)).map (·.1))))
theorem call_sortedD (hu : X.A.units + 64 < cLine) : CallR X (.builtin "sorted") (rSortedD X.K) := by
  intro pins s σ H xs us Q I r h
  obtain ⟨a, bs, rfl, hs, hd, ha, hk, q⟩ := h
  obtain ⟨its, rv, hl, hz⟩ := I.list hs
  obtain ⟨u, rfl, ru⟩ := r.one
  obtain rfl : u = Value.ref a := ru
  obtain ⟨e1, e2⟩ := eachV I rv fun b hb => (hd b hb).1
  rw [List.length_map] at hz
  refine PySem.W.sorted_data (enc := fun b : V × PyData => b.2) hl.isList e1 e2 ha hk hz (fun b hb => ?_) fun out ho eo => ?_
  · have := (hd b hb).2
    omega
  · obtain ⟨c, hc⟩ := PyProof.Rows.sortedAll_at s.heap its out.toArray
    have fresh : H (s.heap.objs.size + 1) = none := I.hok.fresh (Nat.le_succ _)
    refine ⟨.ref _, _, I.laid (o := .lst ((bs.mergeSort (PySem.W.dataLe false fun b : V × PyData => b.2)).map (·.1))) (t' := s.toks) (fun b o e => PyProof.Rows.sortedAll_old e) (Nat.le_succ _) ⟨?_, out, c, eachVals eo, ?_⟩, rfl, q _ fresh⟩
    · rw [List.length_map, List.length_mergeSort]
      exact hz
    · rw [hc]
/-! ### min(xs), max(xs), xs data -/
/-- the item that is told is one of those whose data is the least (greatest) -/
def rBestD (K : PySem.W.Frag) (best : PyData → List PyData → PyData) : List V → Hp → VK → Prop := fun xs H Q => ∃ (a : Addr) (b : V × PyData) (bs : List (V × PyData)), xs = [.ref a] ∧ SqL K H a ((b :: bs).map (·.1)) ∧
  (∀ c ∈ b :: bs, Dp K H c.1 c.2 ∧ c.2.canLay0 = true) ∧ PySem.W.AlikeAll ((b :: bs).map (·.2)) ∧ PyData.depthAll ((b :: bs).map (·.2)) ≤ 50 ∧ ∀ c ∈ b :: bs, c.2 = best b.2 (bs.map (·.2)) → Q c.1 H
theorem dp_readsAll {pins : List (Addr × Obj)} {σ : L2.St} {H : Hp} {s : Shared} (I : Inv X pins σ H s) : ∀ {bs : List (V × PyData)} {its : List Value}, Vals (bs.map (·.1)) its → (∀ b ∈ bs, Dp X.K H b.1 b.2) → ∃ as, ReadsAll s.heap its (bs.map (·.2)) as
  | [], _, r, _ => by
    cases r
    exact ⟨_, .nil⟩
  | b :: bs, _, r, h => by
    rw [List.map_cons] at r
    cases r with
    | cons r1 r2 =>
      obtain ⟨as, q1⟩ := Dp.reads I b.2 b.1 _ (h b List.mem_cons_self) r1
      obtain ⟨cs, q2⟩ := dp_readsAll I r2 fun c hc => h c (List.mem_cons_of_mem _ hc)
      exact ⟨_, .cons q1 q2⟩
theorem vals_at : ∀ {bs : List (V × PyData)} {its : List Value}, Vals (bs.map (·.1)) its → ∀ {i : Nat} {v : Value}, its[i]? = some v → ∃ b ∈ bs, RelV b.1 v
  | [], _, r, i, v, e => by
    cases r
    simp at e
  | b :: bs, _, r, i, v, e => by
    rw [List.map_cons] at r
    cases r with
    | cons r1 r2 =>
      match i, e with
      | 0, e =>
        simp at e
        subst e
        exact ⟨b, List.mem_cons_self, r1⟩
      | i + 1, e =>
        simp at e
        obtain ⟨c, hc, h⟩ := vals_at r2 e
        exact ⟨c, List.mem_cons_of_mem _ hc, h⟩
theorem best_told {pins : List (Addr × Obj)} {σ : L2.St} {H : Hp} {s : Shared} {its : List Value} {bs : List (V × PyData)} {Q : VK} {d : PyData} (I : Inv X pins σ H s) (rv : Vals (bs.map (·.1)) its) (hd : ∀ c ∈ bs, Dp X.K H c.1 c.2 ∧ c.2.canLay0 = true)
    (q : ∀ c ∈ bs, c.2 = d → Q c.1 H) {i : Nat} {v : Value} {h' : Heap} {tk : Nat} {cs : List Addr} (e : its.toArray[i]? = some v) (r : Reads h' v d cs) (k : ∀ b o, s.heap.get? b = some o → h'.get? b = some o) : EP X pins σ Q v { s with heap := h', toks := tk } := by
  obtain ⟨c, hc, rc⟩ := vals_at rv (i := i) (v := v) (by simpa using e)
  obtain ⟨as, r2⟩ := Dp.reads I c.2 c.1 v (hd c hc).1 rc
  have e2 : c.2 = d := PySem.SeqAt.Reads.unique c.2 d v _ _ (hd c hc).2 (PyProof.Rows.Reads.keeps k r2) r
  exact ⟨c.1, H, I.kept k, rc, q c hc e2⟩
theorem call_minD (hc : X.calm = true) (hu : X.A.units + 64 < cLine) : CallR X (.builtin "min") (rBestD X.K PySem.W.minD) := by
  intro pins s σ H xs us Q I r h
  obtain ⟨a, b, bs, rfl, hs, hd, ha, hz, q⟩ := h
  obtain ⟨its, rv, hl, _⟩ := I.list hs
  obtain ⟨u, rfl, ru⟩ := r.one
  obtain rfl : u = Value.ref a := ru
  obtain ⟨as, ra⟩ := dp_readsAll I rv fun c hc => (hd c hc).1
  refine PySem.W.min_list_data (x := b.2) (xs := List.map (fun c : V × PyData => c.2) bs) (I.ok.hd hc) hl.isList (by simpa using ra) ha ?_ fun i v h' tk cs e r k => best_told I rv hd q e r k
  have z : PyData.depthAll (b.2 :: bs.map (·.2)) ≤ 50 := hz
  omega
theorem call_maxD (hc : X.calm = true) (hu : X.A.units + 64 < cLine) : CallR X (.builtin "max") (rBestD X.K PySem.W.maxD) := by
  intro pins s σ H xs us Q I r h
  obtain ⟨a, b, bs, rfl, hs, hd, ha, hz, q⟩ := h
  obtain ⟨its, rv, hl, _⟩ := I.list hs
  obtain ⟨u, rfl, ru⟩ := r.one
  obtain rfl : u = Value.ref a := ru
  obtain ⟨as, ra⟩ := dp_readsAll I rv fun c hc => (hd c hc).1
  refine PySem.W.max_list_data (x := b.2) (xs := List.map (fun c : V × PyData => c.2) bs) (I.ok.hd hc) hl.isList (by simpa using ra) ha ?_ fun i v h' tk cs e r k => best_told I rv hd q e r k
  have z : PyData.depthAll (b.2 :: bs.map (·.2)) ≤ 50 := hz
  omega
end
end Own

set_option Elab.async false
set_option maxRecDepth 100000
set_option maxHeartbeats 2000000
/-! d.items() walked by one name: each turn's pair is a tuple of its own -/
namespace Own
open PySem PySem.Spec PyProof.Rows PySem.W

section
variable {prog : Program} {w : World} {L : Type} [DecidableEq L] {kd : KeyKind prog w L} {A : Around} {E : Value → Shared → Prop} {s : Shared}
theorem get_alive {a : Addr} {Q : Option Obj → Shared → Prop} (h : Q (s.heap.get? a) s) : wpAny (model prog w) A (loadIfAlive a) Q E s := fun _ _ _ => h
/-- asked again, the pair of the turn before alive or not -/
theorem items_any {r d a : Addr} {fl : Bool} {i ep : Nat} {kvs : List (L × Value)} {k : L} {v y1 y2 : Value} {Q : Option Value → Shared → Prop} (hr : KdxIt s.heap r d i kvs.length ep y1 y2 a fl) (hd : s.heap.DictAt kd d kvs ep) (hx : kvs[i]? = some (k, v))
    (q : ∀ u h', kd.is k u = true → (∃ z1 z2 b gl, KdxIt h' r d (i + 1) kvs.length ep z1 z2 b gl) → h'.get? s.heap.objs.size = some { cls := .type "tuple", data := .seq #[u, v] } → h'.objs.size = s.heap.objs.size + 1 →
      (∀ b o, b ≠ r → s.heap.get? b = some o → h'.get? b = some o) → Q (some (.ref s.heap.objs.size)) { s with heap := h' }) :
    wpAny (model prog w) A (pyNext (.ref r)) Q E s := by
  obtain ⟨h0, gs, dn, tk, os⟩ := s
  obtain ⟨od, es, ho, hc, hdt, hk, hp, hn⟩ := id hd
  have ty : Shared.TypeIs ⟨h0, gs, dn, tk, os⟩ (.ref r) "dict_itemiterator" := ⟨_, hr, rfl⟩
  have own : Builtin.Dict_items.ownsTuple "dict_itemiterator" = true := by decide
  have sz : es.size = kvs.length := by rw [← hp.length, Array.length_toList]
  have lt : i < kvs.length := (List.getElem?_eq_some_iff.mp hx).1
  have lt' : i < es.size := by rw [sz]; exact lt
  obtain ⟨ek, ev⟩ := hp.get? (e := es[i]) (by simp [lt']) hx
  unfold pyNext
  refine wpAny_bind (wpAny_attempt (wpAny_callSpecial?_slot (name := Str.ofString "__next__") ty F.slot_dict_itemiterator_next (wpAny_call_entry F.slot_dict_itemiterator_next ty F.entry_dict_itemiterator_next ?body (F.args_dict_itemiterator_next_1 _))))
  case body =>
  refine wpAny_bind (wpAny_pure (wpAny_bind (wpAny_bind ?_)))
  (first | refine wpAny_bind (wpAny_typeNameOfWhole_itemiter ty (wpAny_pure ?_)) | refine wpAny_bind (wpAny_typeNameOf_itemiter ty (wpAny_pure ?_))); refine wpAny_bind (wpAny_fieldsOf hr rfl ?_)
  simp only [own, if_true]; show wpAny _ _ (if (Value.ref d == Value.none) = true then _ else _) _ _ _; rw [if_neg (show ¬ ((Value.ref d == Value.none) = true) from Bool.false_ne_true)]
  refine wpAny_bind (wpAny_pure (wpAny_bind (wpAny_dictEntries ho hdt ?_))); rw [if_neg (by rw [sz]; simp)]
  refine wpAny_bind (wpAny_pure (wpAny_bind (wpAny_dictEpoch ho hdt ?_))); rw [if_neg (by simp)]; refine wpAny_pure ?_
  simp only [show ¬ ((i : Int) < 0) from by omega, if_false, Int.toNat_natCast, Array.getElem?_eq_getElem lt']; refine wpAny_bind ?_
  (first | refine wpAny_bind (wpAny_typeNameOfWhole_itemiter ty (wpAny_pure ?_)) | refine wpAny_bind (wpAny_typeNameOf_itemiter ty (wpAny_pure ?_))); refine wpAny_bind (wpAny_isOneOf_itemiter ty ?_)
  show wpAny _ _ (setField (.ref r) 3 (rawInt ((i : Int) + 1)) >>= _) _ _ ⟨h0, gs, dn, tk, os⟩
  refine wpAny_bind (wpAny_setField_rec hr (by simp) fun h1 r1 b1 => ?_)
  replace b1 : Heap.SameBut r h0 h1 := b1
  replace r1 : KdxIt h1 r d (i + 1) kvs.length ep y1 y2 a fl := by
    have e : ((i + 1 : Nat) : Int) = (i : Int) + 1 := by omega
    unfold KdxIt
    rw [e]
    simpa [rawInt] using r1
  have ty1 : Shared.TypeIs ⟨h1, gs, dn, tk, os⟩ (.ref r) "dict_itemiterator" := ⟨_, r1, rfl⟩
  refine wpAny_bind (wpAny_holding (wpAny_bind (wpAny_isOneOf_itemiter ty1 (wpAny_bind (wpAny_isOneOf_itemiter ty1 ?_)))))
  show wpAny _ _ (Builtin.Dict_items.pairFromOwner (.ref r) 6 es[i].key es[i].val) _ _ ⟨h1, gs, dn, tk, os⟩
  unfold Builtin.Dict_items.pairFromOwner; refine wpAny_bind (wpAny_newTuple ?_)
  have r2 : KdxIt (h1.push { cls := .type "tuple", data := .seq #[es[i].key, es[i].val] }) r d (i + 1) kvs.length ep y1 y2 a fl := Heap.get?_push_of_some _ r1
  have z1 : h1.objs.size = h0.objs.size := b1.1
  have lr : r < h0.objs.size := Heap.lt_size hr
  have t2 : (h1.push { cls := .type "tuple", data := .seq #[es[i].key, es[i].val] }).get? h0.objs.size = some { cls := .type "tuple", data := .seq #[es[i].key, es[i].val] } := by rw [← z1]; exact Heap.get?_push_size _ rfl
  have z2 : (h1.push { cls := .type "tuple", data := .seq #[es[i].key, es[i].val] }).objs.size = h0.objs.size + 1 := by rw [Heap.size_push, z1]
  have k2 : ∀ b o, b ≠ r → h0.get? b = some o → (h1.push { cls := .type "tuple", data := .seq #[es[i].key, es[i].val] }).get? b = some o := fun b o hb e => Heap.get?_push_of_some _ (b1.extBut b o hb e)
  generalize h1.push { cls := .type "tuple", data := .seq #[es[i].key, es[i].val] } = h2 at r2 t2 z2 k2 ⊢
  rw [z1]
  have fin : ∀ (h3 : Heap) (y3 y4 : Value) (b : Addr) (gl : Bool), KdxIt h3 r d (i + 1) kvs.length ep y3 y4 b gl → Heap.SameBut r h2 h3 → Q (some (.ref h0.objs.size)) ⟨h3, gs, dn, tk, os⟩ := fun h3 y3 y4 b gl r3 b3 =>
    q es[i].key h3 ek ⟨y3, y4, b, gl, r3⟩ (by rw [← ev]; exact b3.extBut _ _ (Nat.ne_of_gt lr) t2) (by rw [b3.1, z2]) fun b o hb e => b3.extBut b o hb (k2 b o hb e)
  show wpAny _ _ (Builtin.Dict_items.ownedTupleIsFree (.ref r) >>= _) _ _ ⟨h2, gs, dn, tk, os⟩
  refine wpAny_bind ?_
  unfold Builtin.Dict_items.ownedTupleIsFree
  refine wpAny_bind (wpAny_field r2 rfl (x := rawInt a) rfl ?_)
  show wpAny _ _ (loadIfAlive ((a : Int).toNat) >>= _) _ _ _
  rw [Int.toNat_natCast]
  refine wpAny_bind (get_alive ?_)
  show wpAny _ _ (if (h2.get? a).isNone = true then _ else _) _ _ _
  cases e : h2.get? a with
  | some oa =>
    rw [if_neg (show ¬ ((some oa).isNone = true) from Bool.false_ne_true)]
    refine wpAny_bind (wpAny_field r2 rfl (x := .bool fl) rfl ?_)
    cases fl with
    | true =>
      rw [if_neg (show ¬ ((Value.bool true != .bool true) = true) from Bool.false_ne_true)]
      refine wpAny_pure (wpAny_pure (wpAny_pure ⟨_, rfl, wpAny_pure (fin h2 _ _ _ _ r2 (.refl _ _))⟩))
    | false =>
      rw [if_pos (show (Value.bool false != .bool true) = true from rfl)]
      refine wpAny_bind (wpAny_setField_rec r2 (by simp) fun h3 r3 b3 => ?_)
      have r3' : KdxIt h3 r d (i + 1) kvs.length ep y1 y2 a true := r3
      exact wpAny_pure (wpAny_pure (wpAny_pure ⟨_, rfl, wpAny_pure (fin h3 _ _ _ _ r3' b3)⟩))
  | none =>
    rw [if_pos (show ((none : Option Obj).isNone = true) from rfl)]
    refine wpAny_pure ?_
    show wpAny _ _ (if true = true then _ else _) _ _ _
    rw [if_pos rfl]
    show wpAny _ _ (field (.ref r) 6 >>= _) _ _ _
    refine wpAny_bind (wpAny_field r2 rfl (x := y1) rfl (wpAny_bind (wpAny_field r2 rfl (x := y2) rfl ?_)))
    refine wpAny_bind (wpAny_setField_rec r2 (by simp) fun h3 r3 b3 => wpAny_bind (wpAny_setField_rec r3 (by simp) fun h4 r4 b4 => wpAny_bind (wpAny_setField_rec r4 (by simp) fun h5 r5 b5 => wpAny_bind (wpAny_setField_rec r5 (by simp) fun h6 r6 b6 => ?_))))
    have r6' : KdxIt h6 r d (i + 1) kvs.length ep es[i].key es[i].val h0.objs.size false := r6
    have b26 : Heap.SameBut r h2 h6 := by
      have c3 : Heap.SameBut r h2 h3 := b3
      have c4 : Heap.SameBut r h3 h4 := b4
      have c5 : Heap.SameBut r h4 h5 := b5
      have c6 : Heap.SameBut r h5 h6 := b6
      exact ⟨by rw [c6.1, c5.1, c4.1, c3.1], fun b hb => by rw [c6.2 b hb, c5.2 b hb, c4.2 b hb, c3.2 b hb]⟩
    refine wpAny_bind (wpAny_letGo (wpAny_pure (wpAny_pure ⟨_, rfl, wpAny_pure (fin h6 _ _ _ _ r6' b26)⟩)))
end
/-! ### as a walk of the layer -/
/-- the iterator as it stands ahead of turn i -/
def ItAt (r d n ep : Nat) (i : Nat) (h : Heap) : Prop := (i = 0 ∧ ∃ y1 y2, IsItemIter h r d 0 n ep y1 y2) ∨ ∃ y1 y2 a fl, KdxIt h r d i n ep y1 y2 a fl
open L2 in
theorem turn_itemsN {P : Program} {w : World} {K : PySem.W.Frag} {d : Addr} {o : Obj} {es : Array DictEntry} {ep : Nat} {kvs : List (Key × V)} {y : Str} {p : Pos} (r : Addr) (hod : o.data = .dict es ep) :
    Turn P w K (.Name y p) (Iti d o kvs) [r] r (ItAt r d kvs.length ep) where
  mem := List.mem_singleton.mpr rfl
  obj := fun i h st b hb => by
    obtain rfl := List.mem_singleton.mp hb
    rcases st with ⟨_, y1, y2, e⟩ | ⟨y1, y2, a, fl, e⟩
    · exact ⟨_, e, fun v z => nomatch z⟩
    · exact ⟨_, e, fun v z => nomatch z⟩
  keep := fun i h h' st k => by
    rcases st with ⟨e0, y1, y2, e⟩ | ⟨y1, y2, a, fl, e⟩
    · exact .inl ⟨e0, y1, y2, k r (List.mem_singleton.mpr rfl) _ e⟩
    · exact .inr ⟨y1, y2, a, fl, k r (List.mem_singleton.mpr rfl) _ e⟩
  item := by
    intro X hP hw hK hc i pins s σ H E I hf st hg
    subst hP hw hK
    obtain ⟨hd, hi⟩ := hg
    obtain ⟨hs, hgd, hx, es', ep', vs, dat_, n_, kv, at_⟩ := I.frzK hd
    obtain ⟨rfl, rfl⟩ : es = es' ∧ ep = ep' := ⟨(dict_ep hod dat_).1.symm, (dict_ep hod dat_).2.symm⟩
    obtain ⟨⟨k, v⟩, hkv⟩ : ∃ q, kvs[i]? = some q := ⟨kvs[i], List.getElem?_eq_getElem hi⟩
    obtain ⟨u, hu, ru⟩ := kv_get kv hkv
    have len_ : kvs.length = vs.length := Paired.length kv
    have after : ∀ (key : Value) (h' : Heap), keyIs k key = true → (∃ z1 z2 b gl, KdxIt h' r d (i + 1) vs.length ep z1 z2 b gl) → h'.get? s.heap.objs.size = some { cls := .type "tuple", data := .seq #[key, u] } →
        (∀ b ob, b ≠ r → s.heap.get? b = some ob → h'.get? b = some ob) → r < s.heap.objs.size →
        ∃ uu, some (Value.ref s.heap.objs.size) = some uu ∧ wpAny (model X.prog X.w) X.A (letOwnedTupleGo (.Name y p) (.ref r) uu) (fun _ s2 => ∃ x H', Inv X pins σ H' s2 ∧ RelV x uu ∧ (Iti d o kvs).yld i H x H' ∧ ItAt r d kvs.length ep (i + 1) s2.heap ∧ ∀ b ∈ [r], H' b = none) E { s with heap := h' } := by
      intro key h' hkey st' hT hk lt
      have new : ObjOk X.prog X.w (upd H s.heap.objs.size (.tup [kV k, v])) h' s.heap.objs.size (.tup [kV k, v]) :=
        ⟨by show 2 ≤ sizeLine; decide, [key, u], .cons (relV_key hkey) (.cons ru .nil), ⟨_, hT, rfl, _, rfl⟩⟩
      have I1 : Inv X pins σ (upd H s.heap.objs.size (.tup [kV k, v])) { s with heap := h' } :=
        I.turnedNew (t' := s.toks) (ch := [r]) (fun b ob hb e => hk b ob (fun z => hb (List.mem_singleton.mpr z)) e) hf (Nat.le_refl _) new
      refine ⟨_, rfl, wpAny_pure ⟨.ref s.heap.objs.size, _, I1, rfl, ⟨_, k, v, hkv, rfl, I.hok.fresh (Nat.le_refl _), rfl⟩, .inr ?_, fun b hb => ?_⟩⟩
      · rw [len_]
        exact st'
      · obtain rfl := List.mem_singleton.mp hb
        rw [upd_ne (Nat.ne_of_lt lt)]
        exact (hf b hb).1
    rcases st with ⟨rfl, y1, y2, he⟩ | ⟨y1, y2, a, fl, he⟩
    · rw [len_] at he
      exact wpAny_pyNext_items_item he at_ hu fun key h' hkey ho hT hz hk => after key h' hkey ⟨_, _, _, _, ho⟩ hT hk (Heap.lt_size he)
    · rw [len_] at he
      exact items_any he at_ hu fun key h' hkey st' hT hz hk => after key h' hkey st' hT hk (Heap.lt_size he)
  done := by
    intro X hP hw hK hc i pins s σ H E I hf st hg
    subst hP hw hK
    obtain ⟨hd, hi⟩ := hg
    obtain ⟨f0, f1, f2, f3, f4, f5⟩ := hf r (List.mem_singleton.mpr rfl)
    obtain ⟨hs, hgd, hx, es', ep', vs, dat_, n_, kv, at_⟩ := I.frzK hd
    obtain ⟨rfl, rfl⟩ : es = es' ∧ ep = ep' := ⟨(dict_ep hod dat_).1.symm, (dict_ep hod dat_).2.symm⟩
    have len_ : kvs.length = vs.length := Paired.length kv
    have none_ : vs[i]? = none := List.getElem?_eq_none (by omega)
    rcases st with ⟨rfl, y1, y2, he⟩ | ⟨y1, y2, a, fl, he⟩
    · rw [len_] at he
      exact wpAny_pyNext_items_end (I.ok.hd hc) he at_ none_ fun h' eb => ⟨rfl, I.turned (t' := s.toks) (fun b ob hb e => eb b ob hb e) f0 f1 f3 f4 f5⟩
    · rw [len_] at he
      exact kdx_end_out (I.ok.hd hc) he at_ none_ fun h' eb => ⟨rfl, I.turned (t' := s.toks) (fun b ob hb e => eb b ob hb e) f0 f1 f3 f4 f5⟩
  self := fun A i s Q E st h => by
    rcases st with ⟨_, y1, y2, e⟩ | ⟨y1, y2, a, fl, e⟩
    · exact PySem.W.kcp_self e h
    · have ty : s.TypeIs (.ref r) "dict_itemiterator" := ⟨_, e, rfl⟩
      exact wpAny_pyIter_slot ty F.slot_dict_itemiterator_iter (wpAny_call_entry F.slot_dict_itemiterator_iter ty kcp_entry (show wpAny _ _ (ret (.ref r)) _ _ s from wpAny_pure ⟨_, rfl, "dict_itemiterator", _, ty, F.slot_dict_itemiterator_next.lookup, h⟩) (F.args_dict_itemiterator_iter_1 _))
open L2 in
/-- for x in d.items(), x one name -/
theorem pi_itemsN {X : L2.Cx} {e : Expr} {td : L2.TE} {apos cpos p : Pos} {y : Str} (he : L2.PE X e td) (hb : attributeBase e "items" X.env (eval e X.env) = eval e X.env := by rfl) (len_ine : (apos.endLine == cpos.line) = true := by rfl) :
    L2.PI X (.Name y p) (.Call (.Attribute e "items" apos) [] [] cpos) (L2.iItems td) := by
  constructor
  intro pins s σ H R I h
  refine wpAny_Call_method (T := "dict") (id := "dict.items") hb rfl len_ine F.plainAttrs_dict F.slot_dict_items F.type_dict_items (thn (he.run pins s σ H _ I h) fun u s1 ⟨x, H1, I1, rx, d, o, kvs, ex, hd, q⟩ => ?_)
  subst ex
  obtain rfl : u = Value.ref d := rx
  obtain ⟨hs, hgd, hx, es, ep, vs, dat_, n_, kv, at_⟩ := I1.frzK hd
  have len_ : kvs.length = vs.length := Paired.length kv
  refine ⟨at_.dictOf.typeIs, at_.dictOf.mapOf.noDict, ?_⟩
  have I2 : L2.Inv X pins σ H1 { s1 with heap := s1.heap.push { cls := .type "dict_items", data := .fields #[.ref d] } } := I1.kept (t' := s1.toks) fun b ob z => Heap.get?_push_of_some _ z
  have then_ : wpAny (model X.prog X.w) X.A (pyIter (.ref s1.heap.objs.size)) (L2.PIE X pins σ (.Name y p) R) X.xe { s1 with heap := s1.heap.push { cls := .type "dict_items", data := .fields #[.ref d] } } := by
    refine wpAny_pyIter_items (d := d) (knd := L2.mixKind X.prog X.w) ⟨_, Heap.get?_push_size _ rfl, rfl, rfl⟩ (at_.push _) (L2.pi_one (tk := s1.toks) I2 _ (turn_itemsN _ dat_) (.inl ⟨rfl, .none, .none, ?_⟩) q)
    rw [len_]
    exact Heap.get?_push_size _ rfl
  show wpAny _ _ (callWith cpos (.builtin "dict.items") [.ref d] [] []) _ X.xe s1
  exact method_meetsIn F.slot_dict_items F.entry_dict_items rfl (PySem.evalArgs_none ⟨rfl, at_.dictOf.typeIs, F.args_dict_items_1 _, _, meets_dict_items (L2.mixKind X.prog X.w) d hs, ⟨vs, at_.dictOf⟩, then_⟩)
end Own

set_option Elab.async false
set_option maxRecDepth 100000
set_option maxHeartbeats 400000
/-! min and max of lists of tuples of whole numbers; calls of defs that raise nothing -/
namespace Own
open PySem PySem.Spec PyProof.Rows L2

/-! ### a def at a name, told without Quiet -/
structure CalF (P : Program) (w : World) (K : PySem.W.Frag) (mg : Str → Option Value) (g0 : Heap) (x : Str) (k : Nat) (ps : List Str) (sp : Sp) : Prop where
  ex : ∃ (f : Addr) (fd : FuncData), FnOk P w K mg g0 CX0 k f fd ps sp ∧ Binds K fd ps [] ∧ mg x = some (.ref f) ∧ PySem.W.keepIn K (.ref f) = true
theorem pe_cf {X : Cx} {k : Nat} {ps : List Str} {sp : Sp} {x : Str} {p pos : Pos} {e : Expr} {es : List Expr} {t : TA} (C : CalF X.prog X.w X.K X.mg X.base x k ps sp) (room : Room k X.A) (pa : PA X (e :: es) t) (gl : Gl X x := by rfl)
    (nodbg : (x == ("__debug__" : Str)) = false := by decide)
    (st : starEach (e :: es) X.env = (false, eval e X.env) :: starEach es X.env := by rfl) (pl : (backTo pos (starEach es X.env)).any (·.1) = false := by rfl) :
    PE X (.Call (.Name x p) (e :: es) [] pos) (tCall sp [] E0 t) := by
  obtain ⟨f, fd, F, bd, at_, kp⟩ := C.ex
  exact pe_call F room gl at_ kp bd .nil pass0 pa nodbg st pl

/-! ### the least and the greatest list -/
def minL (x : List Int) (xs : List (List Int)) : List Int := xs.foldl (fun a y => if HT.lexLt y a then y else a) x
def maxL (x : List Int) (xs : List (List Int)) : List Int := xs.foldl (fun a y => if HT.lexLt a y then y else a) x
def tupD (xs : List Int) : PyData := .tuple (xs.map PyData.int)
theorem minD_tup : ∀ (xs : List (List Int)) (x : List Int), PySem.W.minD (tupD x) (xs.map tupD) = tupD (minL x xs)
  | [], _ => rfl
  | y :: ys, x => by
    have ih := fun z => minD_tup ys z
    unfold PySem.W.minD minL at ih ⊢
    rw [List.map_cons, List.foldl_cons, List.foldl_cons]
    have e : PySem.W.dataLt (tupD y) (tupD x) = HT.lexLt y x := lt_ints y x
    rw [e]
    cases HT.lexLt y x with
    | true => exact ih y
    | false => exact ih x
theorem maxD_tup : ∀ (xs : List (List Int)) (x : List Int), PySem.W.maxD (tupD x) (xs.map tupD) = tupD (maxL x xs)
  | [], _ => rfl
  | y :: ys, x => by
    have ih := fun z => maxD_tup ys z
    unfold PySem.W.maxD maxL at ih ⊢
    rw [List.map_cons, List.foldl_cons, List.foldl_cons]
    have e : PySem.W.dataLt (tupD x) (tupD y) = HT.lexLt x y := lt_ints x y
    rw [e]
    cases HT.lexLt x y with
    | true => exact ih y
    | false => exact ih x
theorem lex_irr : ∀ xs : List Int, HT.lexLt xs xs = false
  | [] => rfl
  | x :: xs => by
    rw [HT.lexLt_cons, if_pos rfl]
    exact lex_irr xs
theorem minL_least : ∀ (xs : List (List Int)) (x : List Int), (∀ y ∈ x :: xs, HT.lexLt y (minL x xs) = false)
  | [], x => fun y hy => by
    rw [List.mem_singleton.mp hy]
    exact lex_irr x
  | z :: zs, x => fun y hy => by
    have e : minL x (z :: zs) = minL (if HT.lexLt z x then z else x) zs := rfl
    rw [e]
    cases c : HT.lexLt z x with
    | true =>
      rw [if_pos rfl]
      have ih := minL_least zs z
      rcases List.mem_cons.mp hy with rfl | hy
      · exact NtL.lex_tr _ _ _ (ih z List.mem_cons_self) (NtL.lex_asym _ _ c)
      · exact ih y hy
    | false =>
      rw [if_neg Bool.false_ne_true]
      have ih := minL_least zs x
      rcases List.mem_cons.mp hy with rfl | hy
      · exact ih _ List.mem_cons_self
      · rcases List.mem_cons.mp hy with rfl | hy
        · exact NtL.lex_tr _ _ _ (ih x List.mem_cons_self) c
        · exact ih y (List.mem_cons_of_mem _ hy)
theorem maxL_most : ∀ (xs : List (List Int)) (x : List Int), (∀ y ∈ x :: xs, HT.lexLt (maxL x xs) y = false)
  | [], x => fun y hy => by
    rw [List.mem_singleton.mp hy]
    exact lex_irr x
  | z :: zs, x => fun y hy => by
    have e : maxL x (z :: zs) = maxL (if HT.lexLt x z then z else x) zs := rfl
    rw [e]
    cases c : HT.lexLt x z with
    | true =>
      rw [if_pos rfl]
      have ih := maxL_most zs z
      rcases List.mem_cons.mp hy with rfl | hy
      · exact NtL.lex_tr _ _ _ (NtL.lex_asym _ _ c) (ih z List.mem_cons_self)
      · exact ih y hy
    | false =>
      rw [if_neg Bool.false_ne_true]
      have ih := maxL_most zs x
      rcases List.mem_cons.mp hy with rfl | hy
      · exact ih _ List.mem_cons_self
      · rcases List.mem_cons.mp hy with rfl | hy
        · exact NtL.lex_tr _ _ _ c (ih x List.mem_cons_self)
        · exact ih y (List.mem_cons_of_mem _ hy)
theorem tupD_inj {xs ys : List Int} (h : tupD xs = tupD ys) : xs = ys := by
  have e : xs.map PyData.int = ys.map PyData.int := by
    injection h
  exact (List.map_inj_right fun a b z => by injection z).mp e
/-- min(xs), max(xs): xs a list of tuples of whole numbers, not empty: k tells them -/
def rBestT (K : PySem.W.Frag) (bt : List Int → List Int → Bool) : List V → Hp → VK → Prop := fun xs H Q => ∃ (a : Addr) (ts : List Addr) (k : Addr → List Int), xs = [.ref a] ∧ ts ≠ [] ∧ SqL K H a (ts.map V.ref) ∧ (∀ t ∈ ts, H t = some (.tup ((k t).map V.int))) ∧
  ∀ t ∈ ts, (∀ u ∈ ts, bt (k u) (k t) = false) → Q (.ref t) H
def tagD (k : Addr → List Int) (t : Addr) : V × PyData := (.ref t, tupD (k t))
theorem canLay_tup : ∀ xs : List Int, PyData.canLayAll0 (xs.map PyData.int) = true
  | [] => rfl
  | x :: xs => by
    show (true && _) = true
    rw [canLay_tup xs]
    rfl
theorem tag_depth (k : Addr → List Int) : ∀ ts : List Addr, PyData.depthAll ((ts.map (tagD k)).map (·.2)) ≤ 1
  | [] => Nat.zero_le _
  | t :: ts => by
    show max (PyData.depthAll ((k t).map PyData.int) + 1) _ ≤ 1
    rw [depth_ints]
    exact Nat.max_le.mpr ⟨Nat.le_refl _, tag_depth k ts⟩
theorem tag_alike (k : Addr → List Int) (ts : List Addr) : PySem.W.AlikeAll ((ts.map (tagD k)).map (·.2)) := by
  refine ⟨fun x hx y hy => ?_, fun x hx => ?_⟩
  · rw [List.map_map] at hx hy
    obtain ⟨t, _, rfl⟩ := List.mem_map.mp hx
    obtain ⟨u, _, rfl⟩ := List.mem_map.mp hy
    exact alike_ints (k t) (k u)
  · rw [List.map_map] at hx
    obtain ⟨t, _, rfl⟩ := List.mem_map.mp hx
    exact fun z => by cases z
theorem best_of {K : PySem.W.Frag} {H : Hp} {Q : VK} {best : PyData → List PyData → PyData} {bl : List Int → List (List Int) → List Int} {bt : List Int → List Int → Bool} (hb : ∀ xs x, best (tupD x) (xs.map tupD) = tupD (bl x xs))
    (hl : ∀ (xs : List (List Int)) (x : List Int), ∀ y ∈ x :: xs, bt y (bl x xs) = false) {xs : List V} (h : rBestT K bt xs H Q) : rBestD K best xs H Q := by
  obtain ⟨a, ts0, k, rfl, ne, hs, ht, q⟩ := h
  cases ts0 with
  | nil => exact absurd rfl ne
  | cons t ts =>
  have e1 : (tagD k t :: ts.map (tagD k)).map (fun c : V × PyData => c.1) = (t :: ts).map V.ref := by
    rw [← List.map_cons, List.map_map]
    exact List.map_congr_left fun _ _ => rfl
  have e2 : (ts.map (tagD k)).map (fun c : V × PyData => c.2) = (ts.map k).map tupD := by
    rw [List.map_map, List.map_map]
    exact List.map_congr_left fun _ _ => rfl
  have d1 : ∀ c ∈ tagD k t :: ts.map (tagD k), Dp K H c.1 c.2 ∧ c.2.canLay0 = true := fun c hc => by
    rw [← List.map_cons] at hc
    obtain ⟨u, hu, rfl⟩ := List.mem_map.mp hc
    exact ⟨Dp.tup (SqT.of (ht u hu)) (dpAll_ints (k u)), canLay_tup (k u)⟩
  have d2 : PySem.W.AlikeAll ((tagD k t :: ts.map (tagD k)).map fun c : V × PyData => c.2) := by
    rw [← List.map_cons]
    exact tag_alike k (t :: ts)
  have d3 : PyData.depthAll ((tagD k t :: ts.map (tagD k)).map fun c : V × PyData => c.2) ≤ 50 := by
    rw [← List.map_cons]
    exact Nat.le_trans (tag_depth k (t :: ts)) (by decide)
  have d4 : ∀ c ∈ tagD k t :: ts.map (tagD k), c.2 = best (tagD k t).2 ((ts.map (tagD k)).map fun c : V × PyData => c.2) → Q c.1 H := fun c hc e => by
    rw [← List.map_cons] at hc
    obtain ⟨u, hu, rfl⟩ := List.mem_map.mp hc
    rw [e2] at e
    have e3 : tupD (k u) = tupD (bl (k t) (ts.map k)) := e.trans (hb (ts.map k) (k t))
    have e4 : k u = bl (k t) (ts.map k) := tupD_inj e3
    refine q u hu fun v hv => ?_
    rw [e4]
    refine hl (ts.map k) (k t) (k v) ?_
    rw [← List.map_cons]
    exact List.mem_map.mpr ⟨v, hv, rfl⟩
  exact ⟨a, tagD k t, ts.map (tagD k), rfl, e1 ▸ hs, d1, d2, d3, d4⟩
theorem call_minT {X : Cx} (hc : X.calm = true) (hu : X.A.units + 64 < cLine) : CallR X (.builtin "min") (rBestT X.K fun a b => HT.lexLt a b) :=
  fun pins s σ H xs us Q I r h => call_minD hc hu pins s σ H xs us Q I r (best_of minD_tup minL_least h)
theorem call_maxT {X : Cx} (hc : X.calm = true) (hu : X.A.units + 64 < cLine) : CallR X (.builtin "max") (rBestT X.K fun a b => HT.lexLt b a) :=
  fun pins s σ H xs us Q I r h => call_maxD hc hu pins s σ H xs us Q I r (best_of maxD_tup maxL_most h)
end Own

set_option Elab.async false
set_option maxRecDepth 100000
/-! what keywords bind; defs as they stand behind the top -/
namespace Own
open PySem PySem.Spec PyProof.Rows L2
theorem kb_of {K : PySem.W.Frag} {x qual : Str} {st : Stmt} {f : Addr} {fd : FuncData} {ps ks : List Str} {n : Nat} {g : List Value → List Value → List Value} {gV : List V → List V → List V} (F : Fun K x qual st f fd)
    (rel : ∀ {vs : List V} {us : List Value} {zs : List V} {ws : List Value}, Vals vs us → Vals zs ws → Vals (gV vs zs) (g us ws))
    (h : ∀ (kV doc pm : Value) (an : Option Addr) (cdv ct : Value) (us ws : List Value), us.length = n → ws.length = ks.length →
      bindArgs (PySem.W.fnOf x qual (defArgs st) (defBody st) (defScope st) .none kV doc pm an cdv ct) ⟨us, ks.zip ws⟩ = pure (ps.zip (g us ws))) : KBn K fd ps n ks g gV := by
  obtain ⟨oc, od, kV, doc, pm, an, cdv, ct, osl, rfl, _, _⟩ := F.ex
  exact ⟨fun s us ws _ l1 l2 => BindsTo.of_eq (h kV doc pm an cdv ct us ws l1 l2), rel⟩
/-- keywords for a def with defaults, none of which is needed -/
theorem kb_def {K : PySem.W.Frag} {x qual : Str} {params : Arguments} {body : List Stmt} {scope : Scope} {kws : List (Str × V)} {dvs : List V} {f : Addr} {fd : FuncData} {ps ks : List Str} {n : Nat} {g : List Value → List Value → List Value} {gV : List V → List V → List V}
    (F : FunD K x qual params body scope dvs kws f fd) (hd : dvs ≠ [])
    (rel : ∀ {vs : List V} {us : List Value} {zs : List V} {ws : List Value}, Vals vs us → Vals zs ws → Vals (gV vs zs) (g us ws))
    (h : ∀ (T : Addr) (kV doc pm : Value) (an : Option Addr) (cdv ct : Value) (us its ws : List Value), us.length = n → Vals dvs its → ws.length = ks.length →
      ∃ k, bindArgs (PySem.W.fnOf x qual params body scope (.ref T) kV doc pm an cdv ct) ⟨us, ks.zip ws⟩ = seqItems? (.ref T) >>= k ∧ k (some its.toArray) = pure (ps.zip (g us ws))) : KBn K fd ps n ks g gV := by
  obtain ⟨oc, od, dV, kV, doc, pm, an, cdv, ct, osl, rfl, lk, hcd, hD, hK⟩ := F.ex
  rcases hD with ⟨e, _⟩ | ⟨_, T, o, its, m, rfl, lT, oT, rT⟩
  · exact absurd e hd
  · refine ⟨fun s us ws X l1 l2 => ?_, rel⟩
    obtain ⟨k, e1, e2⟩ := h T kV doc pm an cdv ct us its ws l1 rT l2
    refine BindsTo.of_looks fun M => ?_
    rw [e1]
    exact looks_items X lT oT (.of_pure e2)
/-- keywords for a def whose defaults are keyword-only; ms: those that lack -/
theorem kb_kw {K : PySem.W.Frag} {x qual : Str} {params : Arguments} {body : List Stmt} {scope : Scope} {kws ms : List (Str × V)} {f : Addr} {fd : FuncData} {ps ks : List Str} {n : Nat} {g : List Value → List Value → List Value} {gV : List V → List V → List V}
    (F : FunD K x qual params body scope [] kws f fd) (hk : kws ≠ []) (hms : ∀ q ∈ ms, q ∈ kws)
    (rel : ∀ {vs : List V} {us : List Value} {zs : List V} {ws : List Value}, Vals vs us → Vals zs ws → Vals (gV vs zs) (g us ws))
    (h : ∀ (D : Addr) (doc pm : Value) (an : Option Addr) (cdv ct : Value) (us mv ws : List Value), us.length = n → Vals (ms.map (·.2)) mv → ws.length = ks.length →
      KwChain D ((ms.map (·.1)).zip mv) (bindArgs (PySem.W.fnOf x qual params body scope .none (.ref D) doc pm an cdv ct) ⟨us, ks.zip ws⟩) (ps.zip (g us ws))) : KBn K fd ps n ks g gV := by
  obtain ⟨oc, od, dV, kV, doc, pm, an, cdv, ct, osl, rfl, lk, hcd, hD, hK⟩ := F.ex
  rcases hD with ⟨_, rfl⟩ | ⟨e, _⟩
  · rcases hK with e | ⟨D, rfl, hq⟩
    · exact absurd e hk
    · obtain ⟨mv, hl, rk, hks⟩ := kwd_vals (ms := ms) fun q hm => hq q (hms q hm)
      exact ⟨fun s us ws X l1 l2 => BindsTo.of_looks fun M => KwChain.looks X hks (h D doc pm an cdv ct us mv ws l1 rk l2), rel⟩
  · exact absurd rfl e
theorem vals_rev : ∀ {zs : List V} {ws : List Value}, Vals zs ws → Vals zs.reverse ws.reverse
  | _, _, .nil => .nil
  | _, _, .cons h t => by
    rw [List.reverse_cons, List.reverse_cons]
    exact (vals_rev t).append (.cons h .nil)
theorem raw0 {P : Program} {w : World} {K : PySem.W.Frag} {mg : Str → Option Value} {g0 : Heap} {k : Nat} {f : Addr} {fd : FuncData} {ps : List Str} {sp : Sp} (F : FnOk P w K mg g0 CX0 k f fd ps sp) (b : Binds K fd ps []) : FnR P w K mg g0 CX0 k f sp :=
  (F.raw b .nil).imp fun vs H Q E h => by rw [List.append_nil]; exact h
/-- a def whose defaults are keyword-only, as the top leaves it -/
theorem funK_mk {K : PySem.W.Frag} {x qual : Str} {params : Arguments} {body : List Stmt} {scope : Scope} {kws : List (Str × V)} {f D : Addr} {oc doc pm cdv ct : Value} {od an : Option Addr} {osl : Array (Option Value)}
    (l : K.lookup f = some ⟨oc, od, .func (PySem.W.fnOf x qual params body scope .none (.ref D) doc pm an cdv ct), osl⟩) (c : PySem.W.codeIn K cdv qual = true) (k : PySem.W.keepIn K (.ref f) = true)
    (hq : ∀ q ∈ kws, ∃ u, PySem.W.nsIn K D q.1 = some (some u) ∧ RelV q.2 u) : FunD K x qual params body scope [] kws f (PySem.W.fnOf x qual params body scope .none (.ref D) doc pm an cdv ct) :=
  ⟨⟨_, _, _, _, _, _, _, _, _, _, rfl, l, c, .inl ⟨rfl, rfl⟩, .inr ⟨D, rfl, hq⟩⟩, k⟩
end Own

set_option Elab.async false
set_option maxRecDepth 100000
/-! == and x[k] by a class's own __eq__, __getitem__ -/
namespace Own
open PySem PySem.Spec PyProof.Rows L2

/-- what kind of thing a value is -/
def Kind (K : PySem.W.Frag) (C : Addr) (H : Hp) (y : V) : Prop := y = .non ∨ (∃ b, y = .bl b) ∨ (∃ i, y = .int i) ∨ (∃ z, y = .str z) ∨ (∃ p xs, y = .ref p ∧ SqL K H p xs) ∨ (∃ p xs, y = .ref p ∧ SqT K H p xs) ∨
  (∃ p kvs, y = .ref p ∧ H p = some (.dK kvs)) ∨ ∃ p dx fs, y = .ref p ∧ H p = some (.ins C dx fs)
/-- K's word: none of the builtin kinds comes ahead of the class at C -/
structure NotAhead (K : PySem.W.Frag) (C : Addr) : Prop where
  non : PySem.W.notFirst K C (.type "NoneType") = true
  bl : PySem.W.notFirst K C (.type "bool") = true
  int : PySem.W.notFirst K C (.type "int") = true
  str : PySem.W.notFirst K C (.type "str") = true
  lst : PySem.W.notFirst K C (.type "list") = true
  tup : PySem.W.notFirst K C (.type "tuple") = true
  dct : PySem.W.notFirst K C (.type "dict") = true

section
variable {X : Cx} {Z : CXT} {k : Nat} {C f : Addr} {sp : Sp} {E : XK}
theorem looks_type {M : Model} {s : Shared} {a : Addr} {o : Obj} {T : String} (h : s.heap.get? a = some o) (c : o.cls = .type T) : PySem.W.Looks M s.heap (typeOf (.ref a)) (.type T) :=
  c ▸ (PySem.W.Looks.ld h).andThen .now
theorem kind_looks {M : Model} {pins : List (Addr × Obj)} {σ : L2.St} {H : Hp} {s : Shared} {y : V} {u : Value} (I : Inv X pins σ H s) (n : NotAhead X.K C) (h : Kind X.K C H y) (r : RelV y u) :
    ∃ tb, PySem.W.Looks M s.heap (typeOf u) tb ∧ PySem.W.notFirst X.K C tb = true := by
  rcases h with rfl | ⟨b, rfl⟩ | ⟨i, rfl⟩ | ⟨z, rfl⟩ | ⟨p, xs, rfl, q⟩ | ⟨p, xs, rfl, q⟩ | ⟨p, kvs, rfl, q⟩ | ⟨p, dx, fs, rfl, q⟩
  · cases r; exact ⟨_, .now, n.non⟩
  · cases r; exact ⟨_, .now, n.bl⟩
  · obtain ⟨t, rfl⟩ := r; exact ⟨_, .now, n.int⟩
  · obtain ⟨t, rfl⟩ := r; exact ⟨_, .now, n.str⟩
  · cases r
    obtain ⟨its, _, ⟨o, n2, ho, hc, _⟩, _⟩ := I.list q
    exact ⟨_, looks_type ho hc, n.lst⟩
  · cases r
    obtain ⟨its, _, ho, _⟩ := I.tuple q
    obtain ⟨o, ho, hc, _⟩ := ho
    exact ⟨_, looks_type ho hc, n.tup⟩
  · cases r
    obtain ⟨o, ho, hc⟩ := (isD_at I (.inl ⟨kvs, .of q⟩)).1
    exact ⟨_, looks_type ho hc, n.dct⟩
  · cases r
    obtain ⟨mA, O, _⟩ := ins_get I.hok q
    obtain ⟨od, J, _⟩ := O.look
    exact ⟨_, J.type, by simp [PySem.W.notFirst]⟩
/-- x == y, x an object with an own __eq__ that tells True or False -/
def rEqO (K : PySem.W.Frag) (C : Addr) (sp : Sp) (E : XK) : R2 := fun x y H Q => ∃ a dx fs, x = .ref a ∧ H a = some (.ins C dx fs) ∧ Kind K C H y ∧ sp [.ref a, y] H (fun v H' => ∃ b, v = .bl b ∧ Q (.bl b) H') E
theorem op_eqO (hs : PySem.W.findIn X.K (.ref C) "__eq__" = some (some (.ref f))) (hf : PySem.W.isFn X.K (.ref f) = true) (n : NotAhead X.K C) (F : FnR X.prog X.w X.K X.mg X.base Z k f sp) (room : Room k X.A) (px : Passes Z X E) :
    OpR X (compareOp .Eq) (rEqO X.K C sp E) := by
  intro pins s σ H x y v u Q I rx ry h
  obtain ⟨a, dx, fs, rfl, ea, ky, q⟩ := h
  obtain rfl : v = Value.ref a := rx
  obtain ⟨mA, O, _⟩ := ins_get I.hok ea
  obtain ⟨od, J, _⟩ := O.look
  obtain ⟨tb, lt, nf⟩ := kind_looks I n ky ry
  obtain ⟨m, fr⟩ := I.fr
  show wpAny (model X.prog X.w) X.A (richCompare .Eq (.ref a) u) (EP X pins σ Q) X.xe s
  refine PySem.W.cmp_K (op := .Eq) room.units0 fr I.ok.mod.kin J lt nf hs hf (wpAny_call (codeAny_mono (run_fnR (us := [.ref a, u]) (vs := [.ref a, y]) F room px I (.cons rfl (.cons ry .nil)) q) fun r s' z => ?_))
  match r, z with
  | .error e, z => exact z
  | .ok .next, z => exact z.elim
  | .ok .brk, z => exact z.elim
  | .ok .cont, z => exact z.elim
  | .ok (.ret w), z =>
    obtain ⟨v, H', I', rv, b, rfl, q'⟩ := z
    cases rv
    exact ⟨.bl b, H', I', rfl, q'⟩
end

/-! ### x[k] by an own __getitem__ -/
section
variable {X : Cx} {Z : CXT} {k : Nat} {C f : Addr} {sp : Sp} {E : L2.St → XK} {o i : Expr} {ta tb : TE} {pos : Pos}
def tIxO (C : Addr) (sp : Sp) (E : L2.St → XK) (ta tb : TE) : TE := fun σ H Q => ta σ H fun x H1 => tb σ H1 fun y H2 => ∃ a dx fs, x = .ref a ∧ H2 a = some (.ins C dx fs) ∧ sp [.ref a, y] H2 Q (E σ)
theorem pe_ixO (hs : PySem.W.findIn X.K (.ref C) "__getitem__" = some (some (.ref f))) (hf : PySem.W.isFn X.K (.ref f) = true) (hq : PySem.W.fnIn X.K f = true)
    (F : FnR X.prog X.w X.K X.mg X.base Z k f sp) (room : Room (k + 1) X.A) (px : ∀ σ, PassesAt Z X σ (E σ)) (po : PE X o ta) (pi : PE X i tb)
    (pl : ∀ v u, subscripted i true v u = runValue (.builtin "lifetime.subscript" ⟨[v, u], []⟩) := by intro _ _; rfl) : PE X (.Subscript o i pos) (tIxO C sp E ta tb) := by
  constructor
  intro pins s σ H Q I h
  refine Subscript_ (binT po pi I h fun v u s2 x y H2 I2 rx ry q => ?_)
  obtain ⟨a, dx, fs, rfl, ea, q⟩ := q
  obtain rfl : v = Value.ref a := rx
  obtain ⟨mA, O, _⟩ := ins_get I2.hok ea
  obtain ⟨od, J, _⟩ := O.look
  obtain ⟨m, fr⟩ := I2.fr
  refine PySem.W.sub_K fr I2.ok.mod.kin J hs hq hf (wpAny_call (codeAny_mono (F X.A.in1 X.stack s2 H2 [.ref a, u] [.ref a, y] Q (E σ) room.in1 I2.env0.in1 (.cons rfl (.cons ry .nil)) q) fun r s' z => ?_)) (pl _ _)
  match r, z with
  | .error e, z => exact px σ pins H2 s2 e s' I2 z
  | .ok (.ret w), z => exact I2.after z
  | .ok .next, z => exact z.elim
  | .ok .brk, z => exact z.elim
  | .ok .cont, z => exact z.elim
end
end Own

set_option Elab.async false
set_option maxRecDepth 100000
/-! for k, x in enumerate(t), t a tuple -/
namespace Own
open PySem PySem.Spec PyProof.Rows L2
open AutoSeq1 (wpAny_loadPart')

set_option maxHeartbeats 1000000 in
theorem enum_made {t : Addr} {items : Array Value} : Meets (Builtin.«enumerate.__new__» ⟨[.type "enumerate", .ref t], []⟩) (fun _ R s => s.heap.IsTuple t items ∧
    R (.ok (.ret (.ref (s.heap.push { cls := .type "tuple_iterator", data := .fields #[.ref t, .int 0 0] }).objs.size)))
      { s with heap := (s.heap.push { cls := .type "tuple_iterator", data := .fields #[.ref t, .int 0 0] }).push { cls := .type "enumerate", data := .fields #[.none, .bool false, .ref s.heap.objs.size, rawInt 0, .none, .none] } }) := by
  refine .of_wp fun prog w A R s h => ?_
  obtain ⟨hp, g, d, tk, os⟩ := s
  obtain ⟨ht, h⟩ := h
  have hsub := sub_enumerate
  have go : ∀ {A' : Around} {E : Value → Shared → Prop} {Q : Value → Shared → Prop}, Q (.ref hp.objs.size) ⟨hp.push { cls := .type "tuple_iterator", data := .fields #[.ref t, .int 0 0] }, g, d, tk, os⟩ → wpAny (model prog w) A' (pyIter (.ref t)) Q E ⟨hp, g, d, tk, os⟩ :=
    fun {A' E Q} q => (begins_tuple t items).iter prog w A' E ⟨hp, g, d, tk, os⟩ Q ht q
  wp_walk using go
  refine wpAny_stack_any fun st => wpAny_pure ?_
  split
  · rename_i c _ _ _ _ _
    cases (c == Value.type "enumerate") <;> (wp_walk using go; exact ⟨_, rfl, h⟩)
  · wp_walk using go
    exact ⟨_, rfl, h⟩
theorem call_enumT {P : Program} {w : World} {A : Around} {E : Value → Shared → Prop} {s : Shared} {t : Addr} {items : Array Value} {Q : Value → Shared → Prop} (ht : s.heap.IsTuple t items)
    (h : ∀ h', IsEnum h' (s.heap.objs.size + 1) s.heap.objs.size 0 .none → h'.IsTupleIter s.heap.objs.size t 0 → (∀ b o, s.heap.get? b = some o → h'.get? b = some o) → Q (.ref (s.heap.objs.size + 1)) { s with heap := h' }) :
    wpAny (model P w) A (call (.type "enumerate") [.ref t]) Q E s := by
  refine callType_new F.called_enumerate (by decide) (F.typeCall_enumerate_1 _) (F.newCall_enumerate_1 _) (fun obj => F.args_object_init_2 obj _) F.entry_enumerate_new (enum_made (items := items)) ⟨ht, ?_⟩
  let itO : Obj := { cls := .type "tuple_iterator", data := .fields #[.ref t, .int 0 0] }
  let enO : Obj := { cls := .type "enumerate", data := .fields #[.none, .bool false, .ref s.heap.objs.size, rawInt 0, .none, .none] }
  have z : (s.heap.push itO).objs.size = s.heap.objs.size + 1 := Heap.size_push ..
  have e : ((s.heap.push itO).push enO).get? (s.heap.objs.size + 1) = some enO := z ▸ Heap.get?_push_size (s.heap.push itO) (o := enO) rfl
  show (∃ o, ((s.heap.push itO).push enO).get? (s.heap.push itO).objs.size = some o ∧ o.cls = .type "enumerate") ∧ Q (.ref (s.heap.push itO).objs.size) _
  rw [z]
  exact ⟨⟨_, e, rfl⟩, h _ e ⟨itO, Heap.get?_push_of_some _ (Heap.get?_push_size _ rfl), rfl, rfl⟩ fun b o x => Heap.get?_push_of_some _ (Heap.get?_push_of_some _ x)⟩
/-- the tuple at a, each item in a new pair -/
def IteT (K : PySem.W.Frag) (a : Addr) : It :=
  ⟨fun i H => ∃ (xs : List V) (x : V), SqT K H a xs ∧ xs[i]? = some x, fun i H v H' => ∃ T x, v = .ref T ∧ H T = none ∧ H' = upd H T (.tup [.int (i : Nat), x]) ∧ ∀ xs, SqT K H a xs → xs[i]? = some x, fun i H => ∃ xs : List V, SqT K H a xs ∧ xs.length = i⟩
theorem turn_enumT {P : Program} {w : World} {K : PySem.W.Frag} {elts : List Expr} {kk : Nat} {tpos : Pos} (a e it : Addr) :
    Turn P w K (.Tuple elts kk tpos) (IteT K a) [e, it] e (fun i h => (∃ old, IsEnum h e it ((i : Nat) : Int) old) ∧ h.IsTupleIter it a i ∧ e ≠ it ∧ a ≠ it ∧ a ≠ e) where
  mem := List.mem_cons_self
  obj := by
    rintro i h ⟨⟨old, he⟩, ⟨o, ho, _, hd⟩, _⟩ b hb
    rcases List.mem_cons.mp hb with rfl | hb
    · exact ⟨_, he, fun v q => by cases q⟩
    · rw [List.mem_singleton.mp hb]
      exact ⟨o, ho, fun v q => by rw [hd] at q; cases q⟩
  keep := by
    rintro i h h' ⟨⟨old, he⟩, hi, r⟩ k
    exact ⟨⟨old, k e (by simp) _ he⟩, hi.at fun o q => k it (by simp) o q, r⟩
  item := by
    intro X hP hw hK hc i pins s σ H E I hf st hg
    subst hP hw hK
    obtain ⟨⟨old, he⟩, hit, n1, n2, n3⟩ := st
    obtain ⟨xs, x, hq, hx⟩ := hg
    obtain ⟨its, rv, p, _⟩ := I.tuple hq
    obtain ⟨u, hu, ru⟩ := rv.get hx
    have li : i < its.toArray.size := by
      have z := (List.getElem?_eq_some_iff.mp hu).1
      simpa using z
    have lte : e < s.heap.objs.size := Heap.lt_size he
    have lti : it < s.heap.objs.size := let ⟨_, q, _⟩ := hit; Heap.lt_size q
    refine wpAny_pyNext_enum_itemD (Draws.tuple (A := X.A.in1) (I.ok.hd hc) it a n2 its.toArray) he ⟨hit, p⟩ li n1 (fun z => by
      rcases List.mem_cons.mp z with z | z
      · exact n1 z
      · exact n3 (List.mem_singleton.mp z).symm) fun y h' tk hy ho st' hT hsz hk => ?_
    have ey : y = u := by
      have z : its[i]? = some y := by simpa using hy
      rw [hu] at z
      exact (Option.some.inj z).symm
    subst ey
    refine ⟨_, rfl, wpAny_letOwnedTupleGo_enum (s := { s with heap := h', toks := tk + 1 }) ho fun h'' he' sb => ?_⟩
    have T2 : h''.get? s.heap.objs.size = some { cls := .type "tuple", data := .seq #[.int i tk, y] } := (sb.2 _ (Nat.ne_of_gt lte)).trans hT
    have ok : ObjOk X.prog X.w (upd H s.heap.objs.size (.tup [.int (i : Nat), x])) h'' s.heap.objs.size (.tup [.int (i : Nat), x]) := ⟨by show 2 ≤ sizeLine; decide, [.int i tk, y], .cons ⟨_, rfl⟩ (.cons ru .nil), ⟨_, T2, rfl, _, rfl⟩⟩
    have I1 : Inv X pins σ (upd H s.heap.objs.size (.tup [.int (i : Nat), x])) { s with heap := h'', toks := tk + 1 } :=
      I.turnedNew (ch := [e, it]) (fun b ob hb q => (sb.2 b fun z => hb (by simp [z])).trans (hk b ob (fun z => hb (by simp [z])) (fun z => hb (by simp [z])) q)) hf (Nat.le_refl _) ok
    refine ⟨.ref s.heap.objs.size, _, I1, rfl, ⟨_, x, rfl, I.hok.fresh (Nat.le_refl _), rfl, fun ys hy => ?_⟩, ⟨⟨y, ?_⟩, st'.1.at fun o q => (sb.2 it (Ne.symm n1)).trans q, n1, n2, n3⟩, fun b hb => ?_⟩
    · rw [I.tuple_inj hy hq]
      exact hx
    · rw [show ((i + 1 : Nat) : Int) = (i : Int) + 1 from by omega]
      exact he'
    · have lb : b < s.heap.objs.size := by
        rcases List.mem_cons.mp hb with rfl | hb
        · exact lte
        · rw [List.mem_singleton.mp hb]; exact lti
      rw [upd_ne (Nat.ne_of_lt lb)]
      exact (hf b hb).1
  done := by
    intro X hP hw hK hc i pins s σ H E I hf st hg
    subst hP hw hK
    obtain ⟨⟨old, he⟩, hit, n1, n2, n3⟩ := st
    obtain ⟨xs, hq, rfl⟩ := hg
    obtain ⟨its, rv, p, _⟩ := I.tuple hq
    have ls : its.toArray.size = xs.length := by rw [List.size_toArray, ← rv.length]
    have st2 : s.heap.IsTupleIter it a its.toArray.size ∧ s.heap.IsTuple a its.toArray := by rw [ls]; exact ⟨hit, p⟩
    obtain ⟨f0, f1, f2, f3, f4, f5⟩ := hf it (by simp)
    exact wpAny_pyNext_enum_endD (Draws.tuple (A := X.A.in1) (I.ok.hd hc) it a n2 its.toArray) he st2 fun h' eb => ⟨rfl, I.turned (t' := s.toks) (fun b o hb q => eb b o hb q) f0 f1 f3 f4 f5⟩
  self := by
    rintro A i s Q E ⟨⟨_, he⟩, _⟩ h
    exact wpAny_pyIter_enum he h
def iEnumT (K : PySem.W.Frag) (ta : TA) : TI := fun σ H R => ta σ H fun vs H1 => ∃ a xs, vs = [.ref a] ∧ SqT K H1 a xs ∧ R (IteT K a) H1
theorem pi_enumT {X : Cx} {e : Expr} {ta : TA} {p pos tpos : Pos} {elts : List Expr} {kk : Nat} (hg : Gl X "enumerate") (hm : X.mg "enumerate" = none) (ha : PA X [e] ta) (hs : starEach [e] X.env = [(false, eval e X.env)] := by rfl) :
    PI X (.Tuple elts kk tpos) (.Call (.Name "enumerate" p) [e] [] pos) (iEnumT X.K ta) := by
  constructor
  intro pins s σ H R I h
  refine Call_ (ld_blt I hg hm boot_enumerate (PyProof.Rows.callWith_type1 (thn (ha.run pos pins s σ H _ I h) fun us s1 ⟨vs, H1, I1, r1, a, xs, ex, hq, q⟩ => ?_) hs rfl))
  subst ex
  obtain ⟨u, rfl, ru⟩ : ∃ u, us = [u] ∧ RelV (.ref a) u := by
    cases r1 with
    | cons x y => cases y; exact ⟨_, rfl, x⟩
  obtain rfl : u = Value.ref a := ru
  obtain ⟨its, rv, pt, _⟩ := I1.tuple hq
  have lt : a < s1.heap.objs.size := let ⟨o, ho, _⟩ := pt; Heap.lt_size ho
  refine call_enumT pt fun h' he hit hk => wpAny_pyIter_enum he ?_
  refine ⟨s1.heap.objs.size + 1, [s1.heap.objs.size + 1, s1.heap.objs.size], _, _, H1, rfl, I1.kept (t' := s1.toks) hk, turn_enumT a (s1.heap.objs.size + 1) s1.heap.objs.size, ⟨⟨.none, he⟩, hit, Nat.succ_ne_self _, Nat.ne_of_lt lt, Nat.ne_of_lt (Nat.lt_succ_of_lt lt)⟩, fun b hb => ?_, q⟩
  have le : s1.heap.objs.size ≤ b := by
    rcases List.mem_cons.mp hb with rfl | hb
    · exact Nat.le_succ _
    · rw [List.mem_singleton.mp hb]; exact Nat.le_refl _
  exact I1.fpOk le (I1.hok.fresh le)
section
variable {K : PySem.W.Frag} {a b : Addr} {xs ys : List V}
theorem walk_enumT : Walk (IteT K a) xs.length (fun H => SqT K H a xs) (YPair (fun i => some (.int (i : Nat))) (fun i => xs[i]?)) :=
  ⟨fun i H h q => ⟨xs, xs[i], q, List.getElem?_eq_getElem h⟩, fun H q => ⟨xs, q, rfl⟩, fun i H x H' _ q ⟨T, y, e1, e2, e3, e4⟩ => ⟨T, _, y, e1, e2, e3, rfl, e4 xs q⟩⟩
end
/-- s * n, s a text -/
def rRepS : R2 := fun x y H Q => ∃ (z : Str) (n : Int), x = .str z ∧ y = .int n ∧ z.length ≤ 1000 ∧ n ≤ 1000 ∧ -1000 ≤ n ∧ Q (.str (Txt.mul z n)) H
theorem op_repS {X : Cx} : OpR X (binaryOp .Mult) rRepS := by
  intro pins s σ H x y v u Q I rx ry h
  obtain ⟨z, n, rfl, rfl, hz, hn, hn0, q⟩ := h
  obtain ⟨t, rfl⟩ := rx
  obtain ⟨t', rfl⟩ := ry
  have ok : MulOk z n := by
    refine ⟨?_, fun h1 _ => ?_, fun h1 _ => ?_⟩
    · rw [Bool.or_eq_false_iff]
      exact ⟨decide_eq_false (by omega), decide_eq_false (by omega)⟩
    · have h2 : (1000 : Int) ≤ (2 ^ 63 - 1) / n := by
        refine (Int.le_ediv_iff_mul_le (by omega)).mpr ?_
        omega
      omega
    · show decide (z.length * n.toNat > sizeLine) = false
      have h3 : z.length * n.toNat ≤ 1000 * 1000 := Nat.mul_le_mul hz (by omega)
      refine decide_eq_false ?_
      rw [sizeLine_eq]
      omega
  exact SB.mul ok fun t2 k => ⟨.str _, H, I.tok _, ⟨_, rfl⟩, q⟩
end Own

set_option Elab.async false
set_option maxRecDepth 100000
/-! set(d), d a dict whose keys are ints -/
namespace Own
open PySem PySem.Spec PyProof.Rows L2

/-- the entries of a dict of ints -/
def IntEntries (es : Array DictEntry) (ns : List Int) : Prop := es.size = ns.length ∧ ∀ (i : Nat) (e : DictEntry), es[i]? = some e → ∃ k t, ns[i]? = some k ∧ e.key = Value.int k t ∧ e.hash = hashInt k

theorem laid_nil (mask f mv : Nat) (l p : Bool) : SetTable.laid mask f mv l p #[] = some ({ mask, place := #[], dummies := #[], finger := f, led := l, moves := mv, plain := p }, #[]) := by
  have e : ∀ j : Nat, j < mask + 1 → ((Array.replicate (mask + 1) (none : Option Nat))[j]?).getD none = none := by
    intro j hj
    simp [hj]
  unfold SetTable.laid SetTable.layClean
  simpa using e
theorem fits_nil (mask f mv : Nat) (l p : Bool) : SetTable.fits { mask, place := #[], dummies := #[], finger := f, led := l, moves := mv, plain := p } 0 = true := by
  unfold SetTable.fits
  simp [SetTable.fill]
theorem relay_sizes : ∀ m : Nat, m < 128 → ¬ SetTable.sizeAbove (m * 2) > sizeLine := by
  have z : ∀ m : Nat, m < 128 → SetTable.sizeAbove (m * 2) ≤ 512 := by decide +kernel
  intro m hm h
  rw [sizeLine_eq] at h
  have := z m hm
  omega

section
variable {P : Program} {w : World} {A : Around} {E : Value → Shared → Prop} {s : Shared}
abbrev setO0 (w : World) : Obj := { cls := .type "set", dict := none, data := .set #[] 0 (.fresh 0 0 (!w.params.followText "set-order")) }
theorem room_for {S : Addr} {m : Nat} {Q : Unit → Shared → Prop} (hm : m < 128) (hS : s.heap.get? S = some (setO0 w))
    (h : ∀ h', Heap.SameBut S s.heap h' → SetR w h' S (fun _ => false) 0 → Q () { s with heap := h' }) :
    wpAny (model P w) A (match (SetTable.fresh 0 0 (!w.params.followText "set-order")).roomFor m with | some wanted => setRelay S wanted | _ => pure ()) Q E s := by
  have fit : (SetTable.fresh 0 0 (!w.params.followText "set-order")).fits (#[] : Array (Int × Value)).size = true := fits_nil _ _ _ _ _
  have R0 := setR_new_at (w := w) (ns := []) hS
  have led : w.params.followText "set-order" = true ∨ (!w.params.followText "set-order") = true := by
    cases w.params.followText "set-order" <;> simp
  unfold SetTable.roomFor
  split
  · rename_i wanted hw
    split at hw
    · have hw2 : wanted = m * 2 := by
        have z := Option.some.inj hw
        rw [← z]
        show (0 + m) * 2 = m * 2
        omega
      subst hw2
      unfold setRelay
      refine wpAny_bind (wpAny_setState_of hS rfl fit ?_)
      dsimp only
      rw [if_neg (relay_sizes m hm)]
      unfold SetTable.relaid
      rw [show (Array.map (fun x => x.fst) (#[] : Array (Int × Value))) = #[] from by simp, laid_nil]
      refine wpAny_bind (wpAny_pure ?_)
      show wpAny _ _ (storeSet S #[] { mask := SetTable.sizeAbove (m * 2) - 1, place := #[], dummies := #[], finger := 0, led := !w.params.followText "set-order", moves := (SetTable.fresh 0 0 (!w.params.followText "set-order")).movedTo (SetTable.sizeAbove (m * 2) - 1), plain := true }) _ _ _
      refine wpAny_storeSet_of hS rfl ?_ (fits_of_scanBound (by decide))
      refine h _ (Heap.SameBut.update s.heap S _) ?_
      have ho := store_at (es' := #[]) (t' := { mask := SetTable.sizeAbove (m * 2) - 1, place := #[], dummies := #[], finger := 0, led := !w.params.followText "set-order", moves := (SetTable.fresh 0 0 (!w.params.followText "set-order")).movedTo (SetTable.sizeAbove (m * 2) - 1), plain := true }) hS rfl
      exact ⟨_, #[], _, _, ho, ⟨rfl, rfl, rfl⟩, rfl, fun e he => by simp at he, by simp, fun k => by simp, by decide, fits_nil _ _ _ _ _, rfl, .nil, led⟩
    · cases hw
  · refine wpAny_pure ?_
    have z := h s.heap (Heap.SameBut.refl S s.heap) (R0.congr fun k => by simp)
    exact z
theorem upd_dict {S d : Addr} {o : Obj} {es : Array DictEntry} {ep : Nat} {ns : List Int} {Q : Unit → Shared → Prop} (ho : s.heap.get? d = some o) (hex : o.ExactDict) (hd : o.data = .dict es ep) (hne : d ≠ S)
    (hsys : (d == sysModules) = false) (ie : IntEntries es ns) (hl : ns.length < 128) (hS : s.heap.get? S = some (setO0 w))
    (h : ∀ h' tk c, SetR w h' S (fun j => decide (j ∈ ns)) c → c ≤ ns.length → Heap.SameBut S s.heap h' → Q () { s with heap := h', toks := tk }) :
    wpAny (model P w) A (Builtin.Frozenset.updateFrom "set.__init__" S (.ref d)) Q E s := by
  have f1 := F.sub_dict_set
  have f2 := F.sub_dict_frozenset
  obtain ⟨ocls, odict, odata, oslots⟩ := o
  obtain ⟨e1, e2, e3⟩ := hex
  simp only at e1 e2 e3 hd
  subst e1 e2 e3 hd
  have hb : ns.length < scanBound := by
    have : scanBound = 4096 := rfl
    omega
  unfold Builtin.Frozenset.updateFrom
  wp_walk
  refine room_for (by rw [ie.1]; exact hl) hS fun h1 sb1 R1 => ?_
  have hg : ∀ {h2 : Heap}, Heap.SameBut S s.heap h2 → h2.get? d = some { cls := .type "dict", dict := none, data := .dict es ep, slots := #[] } := fun sb => (sb.2 d hne).trans ho
  refine wpAny_bind (wpAny_dictEntries (hg sb1) rfl (wpAny_bind ?_))
  refine PySem.SeqAt.wpAny_forIn_span 0 es.size _ (fun i _ s' => ∃ h' tk c, s' = { s with heap := h', toks := tk } ∧ c ≤ i ∧ i ≤ es.size ∧ Heap.SameBut S s.heap h' ∧ SetR w h' S (fun j => decide (j ∈ ns.take i)) c) _ ?_ ?_ _
    ⟨h1, _, 0, rfl, Nat.le_refl _, Nat.zero_le _, sb1, R1.congr fun k => by simp⟩
  · rintro i _ s' _ hi ⟨h', tk, c, rfl, hc, _, sb, R⟩
    refine wpAny_bind (wpAny_dictEntries (hg sb) rfl ?_)
    have he : es[i]? = some es[i] := Array.getElem?_eq_getElem hi
    obtain ⟨k, t, hk, ek, eh⟩ := ie.2 i _ he
    rw [he]
    dsimp only
    refine wpAny_bind (wpAny_holding ?_)
    rw [ek, eh]
    have hlt : c + 1 < scanBound := by
      have : scanBound = 4096 := rfl
      have := ie.1
      omega
    refine setR_add_hashed (s := { s with heap := h', toks := tk }) R hlt fun h2 sb2 R2 => ?_
    refine wpAny_bind (wpAny_dictEpoch (hg (sb.trans sb2)) rfl ?_)
    rw [if_neg (by simp)]
    refine wpAny_pure ?_
    have hc3 : (if decide (k ∈ ns.take i) = true then c else c + 1) ≤ i + 1 := by
      split <;> omega
    refine ⟨h2, tk, _, rfl, hc3, hi, sb.trans sb2, R2.congr fun j => ?_⟩
    rw [List.take_add_one, hk]
    simp [List.mem_append]
  · rintro _ s' ⟨h', tk, c, rfl, hc, _, sb, R⟩
    rw [Nat.zero_max] at hc R
    refine wpAny_pure (h h' tk c (R.congr fun j => ?_) (by rw [← ie.1]; exact hc) sb)
    rw [List.take_of_length_le (by rw [ie.1]; exact Nat.le_refl _)]

set_option maxHeartbeats 3200000 in
theorem call_set_dict {d : Addr} {o : Obj} {es : Array DictEntry} {ep : Nat} {ns : List Int} {Q : Value → Shared → Prop} (ho : s.heap.get? d = some o) (hex : o.ExactDict) (hd : o.data = .dict es ep)
    (hsys : (d == sysModules) = false) (ie : IntEntries es ns) (hl : ns.length < 128)
    (h : ∀ h' tk c, SetR w h' s.heap.objs.size (fun j => decide (j ∈ ns)) c → c ≤ ns.length → (∀ b o, s.heap.get? b = some o → h'.get? b = some o) → Q (.ref s.heap.objs.size) { s with heap := h', toks := tk }) :
    wpAny (model P w) A (call (.type "set") [.ref d]) Q E s := by
  let n0 := s.heap.objs.size
  let hp0 := s.heap.push (setO0 w)
  have hnew : hp0.get? n0 = some (setO0 w) := Heap.get?_push_size _ rfl
  have hold : ∀ b o, s.heap.get? b = some o → hp0.get? b = some o := fun b o e => Heap.get?_push_of_some _ e
  have hne : d ≠ n0 := Nat.ne_of_lt (Heap.lt_size ho)
  have ty0 : Shared.TypeIs { s with heap := hp0 } (.ref n0) "set" := ⟨_, hnew, rfl⟩
  obtain ⟨c, tl, hmro⟩ := F.called_set.mro
  have m1 := F.called_set.made
  have m2 := F.called_set.sub
  have m3 := F.called_set.notType
  have m4 := F.called_set.canCreate
  have m5 := F.typeCall_set_1 (.ref d)
  have m6 := F.called_set.init.lookup
  have m7 := F.called_set.init.bind (.ref n0)
  refine wpAny_call (codeAny_of_tree ?_)
  show wpAny _ _ (callAny (.type "set") _) _ _ _
  refine wpAny_pure ⟨Code.quiet_builtin _ (by decide +kernel), codeAny_builtin F.entry_type_call ?_⟩
  rw [Around.under_plain (weight_type_call_type "set" [.ref d] []) rfl]
  repeat (any_goals (first | assumption | wp_step))
  refine codeAny_mono (code_set_led1 (.ref d) (E := E) (Q₁ := fun r s1 => r = .ref n0 ∧ s1 = { s with heap := hp0 }) ⟨rfl, rfl⟩) fun r s1 hr => ?_
  match r, hr with
  | .error e, hr => exact hr
  | .ok .next, hr => exact hr.elim
  | .ok .brk, hr => exact hr.elim
  | .ok .cont, hr => exact hr.elim
  | .ok (.ret u), hr =>
    obtain ⟨rfl, rfl⟩ := hr
    repeat (any_goals (first | assumption | wp_step))
    refine codeAny_mono (codeAny_call_builtin (R := wants (fun r s2 => r = .none ∧ ∃ h' tk c, s2 = { s with heap := h', toks := tk } ∧ SetR w h' n0 (fun j => decide (j ∈ ns)) c ∧ c ≤ ns.length ∧ Heap.SameBut n0 hp0 h') E)
      F.called_set.init.plain F.entry_set_init (check_set_init_1 ty0 ?_)) fun r2 s2 hr2 => ?_
    · unfold Builtin.«set.__init__» noKeywords
      generalize hU : Builtin.Frozenset.updateFrom = U
      wp_walk
      subst hU
      refine upd_dict (s := { s with heap := hp0 }) (hold _ _ ho) hex hd hne hsys ie hl hnew fun h' tk c R hc sb => ?_
      exact wpAny_pure ⟨rfl, h', tk, c, rfl, R, hc, sb⟩
    · match r2, hr2 with
      | .error e, hr2 => exact hr2
      | .ok .next, hr2 => exact hr2.elim
      | .ok .brk, hr2 => exact hr2.elim
      | .ok .cont, hr2 => exact hr2.elim
      | .ok (.ret u), hr2 =>
        obtain ⟨rfl, h', tk, c, rfl, hR, hc, sb⟩ := hr2
        repeat (any_goals (first | assumption | wp_step))
        exact h _ _ _ hR hc fun b o e => (sb.2 b (Nat.ne_of_lt (Heap.lt_size e))).trans (hold b o e)
end
section
variable {X : Cx}
theorem intEntries_of {P : Program} {w : World} : ∀ {es : List DictEntry} {vs : List (Key × Value)} {ns : List Int}, Pairs (mixKind P w) es vs → (∀ e ∈ es, ∃ k, (mixKind P w).is k e.key = true ∧ e.hash = (mixKind P w).hash k) →
    vs.map (·.1) = ns.map Sum.inl → IntEntries es.toArray ns
  | [], [], [], _, _, _ => ⟨rfl, fun i e h => by simp at h⟩
  | [], [], _ :: _, _, _, h => by simp at h
  | e :: es, kv :: vs, [], _, _, h => by simp at h
  | e :: es, kv :: vs, n :: ns, .cons hk _ r, hh, h => by
    rw [List.map_cons, List.map_cons] at h
    obtain ⟨h1, h2⟩ := List.cons.inj h
    obtain ⟨z1, z2⟩ := intEntries_of r (fun e he => hh e (List.mem_cons_of_mem _ he)) h2
    refine ⟨by simp only [List.size_toArray, List.length_cons] at z1 ⊢; omega, fun i x hx => ?_⟩
    cases i with
    | zero =>
      have ex : e = x := by simpa using hx
      subst ex
      obtain ⟨k, hk2, hh2⟩ := hh e (List.mem_cons_self ..)
      have ek : k = kv.1 := (mixKind P w).inj _ _ _ hk2 hk
      rw [ek, h1] at hh2
      rw [h1] at hk
      have hk' : keyIs (Sum.inl n) e.key = true := hk
      rcases keyIs_shape hk' with ⟨i, t, e1, e2⟩ | ⟨x, t, e1, _⟩
      · obtain rfl := Sum.inl.inj e1
        exact ⟨n, t, rfl, e2, hh2⟩
      · cases e1
    | succ i =>
      have hx' : es.toArray[i]? = some x := by simpa using hx
      obtain ⟨k, t, a, b, c⟩ := z2 i x hx'
      exact ⟨k, t, by simpa using a, b, c⟩
theorem kv_keys : ∀ {kvs : List (Key × V)} {vs : List (Key × Value)}, KV kvs vs → kvs.map (·.1) = vs.map (·.1)
  | _, _, .nil => rfl
  | _, _, .cons a r => by
    rw [List.map_cons, List.map_cons, a.1, kv_keys r]
/-- set(d) -/
def rSetD (w : World) : List V → Hp → VK → Prop := fun xs H Q => ∃ (d : Addr) (kvs : List (Key × V)) (ns : List Int), xs = [.ref d] ∧ H d = some (.dK kvs) ∧ kvs.map (·.1) = ns.map Sum.inl ∧ ns.length < 128 ∧
  ∀ p c, H p = none → c ≤ ns.length → Q (.ref p) (upd H p (SetO w p (fun j => decide (j ∈ ns)) c))
theorem call_setD : CallR X (.type "set") (rSetD X.w) := by
  intro pins s σ H xs us Q I r h
  obtain ⟨d, kvs, ns, rfl, hd, hk, hl, q⟩ := h
  obtain ⟨u, rfl, ru⟩ := r.one
  obtain rfl : u = Value.ref d := ru
  obtain ⟨_, hsys, vs, kv, o, es, ep, ho, hex, hdat, hks, hps, _⟩ := I.hok d _ hd
  have e1 : vs.map (·.1) = ns.map Sum.inl := by
    rw [← hk]
    exact (kv_keys kv).symm
  have ie : IntEntries es ns := by
    have z := intEntries_of (es := es.toList) (by exact hps) (fun e he => hks e (by simpa using he)) e1
    simpa using z
  refine call_set_dict ho hex hdat hsys ie hl fun h' tk c R hc keep => ?_
  exact ⟨.ref _, _, I.laid (t' := tk) keep (Nat.le_refl _) (setO_new R), rfl, q _ c (I.hok.fresh (Nat.le_refl _)) hc⟩
end
end Own

set_option Elab.async false
set_option maxRecDepth 100000
/-! set(xs), xs a list or a tuple of texts -/
namespace Own
open PySem PySem.Spec PyProof.Rows L2

/-- how many are met, and whether each for the first time -/
def Cnt (zs : List Str) (c : Nat) : Prop := c ≤ zs.length ∧ (c = zs.length ↔ zs.Nodup)
theorem cnt_nil : Cnt [] 0 := ⟨Nat.le_refl _, by simp⟩
theorem cnt_step {zs : List Str} {z : Str} {c : Nat} (h : Cnt zs c) : Cnt (zs ++ [z]) (if decide (z ∈ zs) = true then c else c + 1) := by
  obtain ⟨h1, h2⟩ := h
  by_cases hz : z ∈ zs
  · rw [if_pos (decide_eq_true hz)]
    refine ⟨by simp; omega, ?_⟩
    rw [List.nodup_append]
    constructor
    · intro e
      simp at e
      omega
    · rintro ⟨_, _, n⟩
      exact absurd rfl (n z hz z (List.mem_singleton.mpr rfl))
  · rw [if_neg (by simpa using hz)]
    refine ⟨by simp; omega, ?_⟩
    rw [List.nodup_append]
    constructor
    · intro e
      refine ⟨h2.mp (by simpa using e), by simp, fun a ha b hb e2 => ?_⟩
      rw [List.mem_singleton.mp hb] at e2
      exact hz (e2 ▸ ha)
    · rintro ⟨n, _, _⟩
      have := h2.mpr n
      simp
      omega
def TxtIn (zs : List Str) : Key → Bool := fun k => match k with | Sum.inl _ => false | Sum.inr z => decide (z ∈ zs)
theorem txtIn_snoc {zs : List Str} {z : Str} : (fun k => TxtIn zs k || decide (k = (Sum.inr z : Key))) = TxtIn (zs ++ [z]) := by
  funext k
  cases k with
  | inl i => simp [TxtIn]
  | inr y => simp [TxtIn, List.mem_append]

section
variable {P : Program} {w : World} {A : Around} {R : Result → Shared → Prop} {it : Addr} {fp wr : List Addr} {G : Array GenState → Array GenState → Prop} {n : Nat} {Pv : Nat → Value → Prop} {St : Nat → Shared → Prop} {zs : List Str}
theorem txt_step {i : Nat} {z : Str} {c : Nat} {h h' : Heap} {S : Addr} (hz : zs[i]? = some z) (hs : h'.SetOf (mixKind P w) S (fun k => TxtIn (zs.take i) k || decide (k = Sum.inr z)) (if TxtIn (zs.take i) (Sum.inr z) = true then c else c + 1)) :
    h'.SetOf (mixKind P w) S (TxtIn (zs.take (i + 1))) (if decide (z ∈ zs.take i) = true then c else c + 1) := by
  rw [List.take_add_one, hz]
  rw [txtIn_snoc] at hs
  exact hs
theorem txt_loop (W : WalksS P w A.in1 it fp wr G n Pv St) (S : Addr) (nS : S ∉ fp) (hn : zs.length = n) (room : n + 1 < scanBound) (val : ∀ i v, Pv i v → ∃ z t, zs[i]? = some z ∧ v = Value.str z t)
    :
    ∀ (left i c : Nat) (s : Shared), n - i = left → i ≤ n → St i s → Cnt (zs.take i) c → s.heap.SetOf (mixKind P w) S (TxtIn (zs.take i)) c →
      (∀ s' c', Moved (S :: wr) G s s' → Cnt zs c' → s'.heap.SetOf (mixKind P w) S (TxtIn zs) c' → R (.ok (.ret .none)) s') →
      codeAny (model P w) A (.builtin "set.update.loop" ⟨[.ref S, .ref it], []⟩) R s := by
  have mw : ∀ b ∈ wr, b ∈ S :: wr := fun b hb => List.mem_cons_of_mem _ hb
  have nw : S ∉ wr := fun z => nS (W.sub _ z)
  have stay : ∀ {s s' : Shared} {p : Key → Bool} {c : Nat}, Moved wr G s s' → s.heap.SetOf (mixKind P w) S p c → s'.heap.SetOf (mixKind P w) S p c := fun m q => setOf_at q fun o e => m.heap S o nw e
  intro left
  induction left with
  | zero =>
    intro i c s hk hi st hc hS k
    obtain rfl : i = n := by omega
    rw [List.take_of_length_le (by omega)] at hc hS
    refine codeAny_builtin F.entry_set_update_loop ?_
    rw [Around.under_plainId F.plain_set_update_loop _]
    refine wpAny_bind (m := pyNext (.ref it)) (W.done s _ _ st fun s' m => ?_)
    exact wpAny_pure (k s' c (m.mono mw) hc (stay m hS))
  | succ left ih =>
    intro i c s hk hi st hc hS k
    refine codeAny_builtin F.entry_set_update_loop ?_
    rw [Around.under_plainId F.plain_set_update_loop _]
    refine wpAny_bind (m := pyNext (.ref it)) (W.item i s _ _ (by omega) st fun v s' hv st' m => ?_)
    obtain ⟨z, t, hz, rfl⟩ := val i v hv
    have hS1 := stay m hS
    refine wpAny_bind (m := holding [Value.str z t] (setAdd S (.str z t))) (wpAny_holding ?_)
    unfold setAdd
    refine wpAny_holding (wpAny_bind ((mixKind P w).pyHash (k := Sum.inr z) (kV_is (k := Sum.inr z) ⟨t, rfl⟩) ?_))
    refine wpAny_setAddHashed_of (knd := mixKind P w) (s := { s' with toks := s'.toks + 1 }) (kV_is (k := Sum.inr z) ⟨t, rfl⟩) rfl hS1 (by have := hc.1; rw [List.length_take] at this; omega) fun h' sb hS2 => ?_
    have hS3 := txt_step (h := s'.heap) hz hS2
    have hc3 : Cnt (zs.take (i + 1)) (if decide (z ∈ zs.take i) = true then c else c + 1) := by
      rw [List.take_add_one, hz]
      exact cnt_step hc
    have off : ∀ b ∈ fp, b ≠ S := fun b hb e => nS (e ▸ hb)
    refine wpAny_pure ⟨plainId_quiet F.plain_set_update_loop _, ih (i + 1) _ _ (by omega) (by omega) (W.frame _ s' _ _ st' (Nat.le_succ _) fun b hb o e => (sb.2 b (off b hb)).trans e) hc3 hS3 fun s2 c2 m2 hc2 hS4 => ?_⟩
    refine k s2 c2 (Moved.trans W.gtrans ((m.mono mw).then_heap (Nat.le_succ _) fun b o hb e => ?_) m2) hc2 hS4
    exact (sb.2 b fun e2 => hb (e2 ▸ List.mem_cons_self)).trans e
end

section
open PySem.W
variable {P : Program} {w : World} {A : Around} {E : Value → Shared → Prop} {s : Shared} {zs : List Str} {l : Addr} {items : Array Value}
theorem txt_vals {its : List Value} (h : Vals (zs.map V.str) its) (i : Nat) (v : Value) (hv : its.toArray[i]? = some v) : ∃ z t, zs[i]? = some z ∧ v = Value.str z t := by
  have hv' : its[i]? = some v := by simpa using hv
  have li : i < zs.length := by
    have := (List.getElem?_eq_some_iff.mp hv').1
    rw [← h.length, List.length_map] at this
    exact this
  obtain ⟨u, hu, ru⟩ := h.get (i := i) (x := V.str zs[i]) (by rw [List.getElem?_map, List.getElem?_eq_getElem li]; rfl)
  rw [hv'] at hu
  obtain rfl := Option.some.inj hu
  obtain ⟨t, rfl⟩ := ru
  exact ⟨_, t, List.getElem?_eq_getElem li, rfl⟩
/-- set.__init__ over an iterator of texts -/
theorem txt_init {S : Addr} {ocl : String} {od : Option Addr} {nn : Nat} {osl : Array (Option Value)} (tyS : ocl = "list" ∨ ocl = "tuple") (hh : A.handled = none) (hol : s.heap.get? l = some { cls := .type ocl, dict := od, data := .seq items nn, slots := osl }) (hS : s.heap.get? S = some (setO0 w)) (ne : l ≠ S)
    (val : ∀ (i : Nat) (v : Value), items[i]? = some v → ∃ z t, zs[i]? = some z ∧ v = Value.str z t) (hn : zs.length = items.size) (room : zs.length ≤ 1000) {Q : Unit → Shared → Prop}
    (h : ∀ h' tk c, Cnt zs c → h'.SetOf (mixKind P w) S (TxtIn zs) c → (∀ b o, b ≠ S → s.heap.get? b = some o → h'.get? b = some o) → Q () { s with heap := h', toks := tk }) :
    wpAny (model P w) A (Builtin.Frozenset.updateFrom "set.__init__" S (.ref l)) Q E s := by
  have a1 := F.sub_list_set
  have a2 := F.sub_list_frozenset
  have a3 := F.sub_tuple_set
  have a4 := F.sub_tuple_frozenset
  have a5 : (Value.type "list" == Value.type "dict") = false := by decide
  have a6 : (Value.type "tuple" == Value.type "dict") = false := by decide
  have S0 : s.heap.SetOf (mixKind P w) S (TxtIn (zs.take 0)) 0 := ⟨_, #[], 0, _, hS, ⟨rfl, rfl, rfl⟩, rfl, (fun e he => by simp at he), (fun k => by cases k <;> simp [TxtIn]), (by decide), (by rfl), rfl⟩
  have lS : S < s.heap.objs.size := Heap.lt_size hS
  have ll : l < s.heap.objs.size := Heap.lt_size hol
  have sb : scanBound = 4096 := rfl
  have done : ∀ (io : Obj) (s' : Shared) (c' : Nat) (G : Array GenState → Array GenState → Prop), (∀ a b, G a b → b = a) → Moved (S :: [s.heap.objs.size]) G { s with heap := s.heap.push io } s' → Cnt zs c' → s'.heap.SetOf (mixKind P w) S (TxtIn zs) c' → Q () s' := by
    intro io s' c' G hG m hc hS'
    obtain ⟨h', g2, d', tk', os'⟩ := s'
    have e1 : g2 = s.gens := hG _ _ m.gens
    have e2 : d' = s.drawn := m.drawn
    have e3 : os' = s.os := m.os
    subst e1 e2 e3
    refine h h' tk' c' hc hS' fun b o hb e => m.heap b o (fun z => ?_) (Heap.get?_push_of_some _ e)
    rcases List.mem_cons.mp z with z | z
    · exact hb z
    · exact Nat.ne_of_lt (Heap.lt_size e) (List.mem_singleton.mp z)
  rcases tyS with rfl | rfl
  · have hl : s.heap.IsList l items := ⟨_, hol, rfl, nn, rfl⟩
    unfold Builtin.Frozenset.updateFrom
    generalize hPI : pyIter = PI
    wp_walk
    subst hPI
    refine wpAny_pyIter_list hl (wpAny_bind (wpAny_runValue ?_))
    refine txt_loop (zs := zs) ((Walks.list (A := A.in1) hh s.heap.objs.size l (Nat.ne_of_lt ll) items).toS) S (fun z => ?_) hn (by omega) val (items.size - 0) 0 0 _ rfl (Nat.zero_le _) ⟨⟨_, Heap.get?_push_size _ rfl, rfl, rfl⟩, hl.push _⟩ cnt_nil
      (setOf_at S0 fun o e => Heap.get?_push_of_some _ e) fun s' c' m hc hS' => wpAny_pure (done _ s' c' _ (fun _ _ z => z) m hc hS')
    rcases List.mem_cons.mp z with z | z
    · exact Nat.ne_of_lt lS z
    · exact ne (List.mem_singleton.mp z).symm
  · have hl : s.heap.IsTuple l items := ⟨_, hol, rfl, nn, rfl⟩
    unfold Builtin.Frozenset.updateFrom
    generalize hPI : pyIter = PI
    wp_walk
    subst hPI
    refine wpAny_pyIter_tuple hl (wpAny_bind (wpAny_runValue ?_))
    refine txt_loop (zs := zs) ((Walks.tuple (A := A.in1) hh s.heap.objs.size l (Nat.ne_of_lt ll) items).toS) S (fun z => ?_) hn (by omega) val (items.size - 0) 0 0 _ rfl (Nat.zero_le _) ⟨⟨_, Heap.get?_push_size _ rfl, rfl, rfl⟩, hl.push _⟩ cnt_nil
      (setOf_at S0 fun o e => Heap.get?_push_of_some _ e) fun s' c' m hc hS' => wpAny_pure (done _ s' c' _ (fun _ _ z => z) m hc hS')
    rcases List.mem_cons.mp z with z | z
    · exact Nat.ne_of_lt lS z
    · exact ne (List.mem_singleton.mp z).symm
set_option maxHeartbeats 3200000 in
theorem call_set_txt {ocl : String} {od : Option Addr} {nn : Nat} {osl : Array (Option Value)} (tyS : ocl = "list" ∨ ocl = "tuple") (hh : A.handled = none) (hol : s.heap.get? l = some { cls := .type ocl, dict := od, data := .seq items nn, slots := osl })
    (val : ∀ (i : Nat) (v : Value), items[i]? = some v → ∃ z t, zs[i]? = some z ∧ v = Value.str z t) (hn : zs.length = items.size) (room : zs.length ≤ 1000) {Q : Value → Shared → Prop}
    (h : ∀ h' tk c, Cnt zs c → h'.SetOf (mixKind P w) s.heap.objs.size (TxtIn zs) c → (∀ b o, s.heap.get? b = some o → h'.get? b = some o) → Q (.ref s.heap.objs.size) { s with heap := h', toks := tk }) :
    wpAny (model P w) A (call (.type "set") [.ref l]) Q E s := by
  let S := s.heap.objs.size
  let hp0 := s.heap.push (setO0 w)
  have hnew : hp0.get? S = some (setO0 w) := Heap.get?_push_size _ rfl
  have hold : ∀ b o, s.heap.get? b = some o → hp0.get? b = some o := fun b o e => Heap.get?_push_of_some _ e
  have ne : l ≠ S := Nat.ne_of_lt (Heap.lt_size hol)
  have ty0 : Shared.TypeIs { s with heap := hp0 } (.ref S) "set" := ⟨_, hnew, rfl⟩
  obtain ⟨c, tl, hmro⟩ := F.called_set.mro
  have m1 := F.called_set.made
  have m2 := F.called_set.sub
  have m3 := F.called_set.notType
  have m4 := F.called_set.canCreate
  have m5 := F.typeCall_set_1 (.ref l)
  have m6 := F.called_set.init.lookup
  have m7 := F.called_set.init.bind (.ref S)
  refine wpAny_call (codeAny_of_tree ?_)
  show wpAny _ _ (callAny (.type "set") _) _ _ _
  refine wpAny_pure ⟨Code.quiet_builtin _ (by decide +kernel), codeAny_builtin F.entry_type_call ?_⟩
  rw [Around.under_plain (weight_type_call_type "set" [.ref l] []) rfl]
  repeat (any_goals (first | assumption | wp_step))
  refine codeAny_mono (code_set_led1 (.ref l) (E := E) (Q₁ := fun r s1 => r = .ref S ∧ s1 = { s with heap := hp0 }) ⟨rfl, rfl⟩) fun r s1 hr => ?_
  match r, hr with
  | .error e, hr => exact hr
  | .ok .next, hr => exact hr.elim
  | .ok .brk, hr => exact hr.elim
  | .ok .cont, hr => exact hr.elim
  | .ok (.ret u), hr =>
    obtain ⟨rfl, rfl⟩ := hr
    repeat (any_goals (first | assumption | wp_step))
    refine codeAny_mono (codeAny_call_builtin (R := wants (fun r s2 => r = .none ∧ ∃ h' tk c, s2 = { s with heap := h', toks := tk } ∧ Cnt zs c ∧ h'.SetOf (mixKind P w) S (TxtIn zs) c ∧ ∀ b o, b ≠ S → hp0.get? b = some o → h'.get? b = some o) E)
      F.called_set.init.plain F.entry_set_init (check_set_init_1 ty0 ?_)) fun r2 s2 hr2 => ?_
    · unfold Builtin.«set.__init__» noKeywords
      generalize hU : Builtin.Frozenset.updateFrom = U
      wp_walk
      subst hU
      refine txt_init (s := { s with heap := hp0 }) (zs := zs) tyS (by simpa using hh) (hold _ _ hol) hnew ne val hn room fun h' tk c hc hS k => ?_
      exact wpAny_pure ⟨rfl, h', tk, c, rfl, hc, hS, k⟩
    · match r2, hr2 with
      | .error e, hr2 => exact hr2
      | .ok .next, hr2 => exact hr2.elim
      | .ok .brk, hr2 => exact hr2.elim
      | .ok .cont, hr2 => exact hr2.elim
      | .ok (.ret u), hr2 =>
        obtain ⟨rfl, h', tk, c, rfl, hc, hS, k⟩ := hr2
        repeat (any_goals (first | assumption | wp_step))
        exact h _ _ _ hc hS fun b o e => k b o (Nat.ne_of_lt (Heap.lt_size e)) (hold b o e)
end
section
variable {X : Cx}
/-- set(xs) -/
def rSetS (P : Program) (w : World) (K : PySem.W.Frag) : List V → Hp → VK → Prop := fun xs H Q => ∃ (a : Addr) (zs : List Str), xs = [.ref a] ∧ (SqL K H a (zs.map V.str) ∨ SqT K H a (zs.map V.str)) ∧ zs.length ≤ 1000 ∧
  ∀ p c, H p = none → Cnt zs c → Q (.ref p) (upd H p (SetK P w p (TxtIn zs) c))
theorem call_setS (hc : X.calm = true) : CallR X (.type "set") (rSetS X.prog X.w X.K) := by
  intro pins s σ H xs us Q I r h
  obtain ⟨a, zs, rfl, hs, hz, q⟩ := h
  obtain ⟨u, rfl, ru⟩ := r.one
  obtain rfl : u = Value.ref a := ru
  have fin : ∀ h' tk c, Cnt zs c → h'.SetOf (mixKind X.prog X.w) s.heap.objs.size (TxtIn zs) c → (∀ b o, s.heap.get? b = some o → h'.get? b = some o) → EP X pins σ Q (.ref s.heap.objs.size) { s with heap := h', toks := tk } := fun h' tk c hc hS keep =>
    ⟨.ref _, _, I.laid (t' := tk) keep (Nat.le_refl _) (setK_new hS), rfl, q _ c (I.hok.fresh (Nat.le_refl _)) hc⟩
  rcases hs with hs | hs
  · obtain ⟨its, rv, ⟨⟨oc, od, odt, osl⟩, n2, ho, hcl, hd, hdt⟩, _⟩ := I.list hs
    simp only at hcl hd hdt
    subst hcl hdt
    exact call_set_txt (.inl rfl) (I.ok.hd hc) ho (fun i v hv => txt_vals rv i v hv) (by rw [List.size_toArray, ← rv.length, List.length_map]) hz fin
  · obtain ⟨its, rv, ⟨⟨oc, od, odt, osl⟩, ho, hcl, n2, hdt⟩, _⟩ := I.tuple hs
    simp only at hcl hdt
    subst hcl hdt
    exact call_set_txt (.inr rfl) (I.ok.hd hc) ho (fun i v hv => txt_vals rv i v hv) (by rw [List.size_toArray, ← rv.length, List.length_map]) hz fin
/-- len(s), s such a set -/
def rLenK (P : Program) (w : World) : List V → Hp → VK → Prop := fun xs H Q => ∃ (a : Addr) (S : Key → Bool) (n : Nat), xs = [.ref a] ∧ H a = some (SetK P w a S n) ∧ Q (.int n) H
theorem call_lenK : CallR X (.builtin "len") (rLenK X.prog X.w) := by
  intro pins s σ H xs us Q I r h
  obtain ⟨a, S, n, rfl, ha, q⟩ := h
  obtain ⟨u, rfl, ru⟩ := r.one
  obtain rfl : u = Value.ref a := ru
  obtain ⟨o, es, ep, t, ho, hex, hd, _, _, hb, hf, rfl⟩ := setK_get I ha
  exact call_len_set ho hex hd hf (by have : scanBound = 4096 := rfl; omega) ⟨.int _, H, I.tok _, ⟨_, rfl⟩, q⟩
end
end Own

set_option Elab.async false
set_option maxRecDepth 100000
set_option linter.unusedVariables false
/-! steps of dicts; the deck that is a dict -/
namespace Own
open PySem PySem.Spec PyProof.Rows L2
section
variable {σ : L2.St} {H : Hp} {Q : VK} {D : Ends} {td ty tv : TE}
theorem k_dget (h : td σ H fun x H1 => ty σ H1 fun y H2 => ∃ a v, x = .ref a ∧ DGet H2 a y (some v) ∧ Q v H2) : tDGet td ty σ H Q := h
theorem k_dput (h : tv σ H fun v H1 => td σ H1 fun x H2 => ty σ H2 fun y H3 => ∃ a H4, x = .ref a ∧ DPut H3 a y v H4 ∧ D.nx σ H4) : sDPut td ty tv D σ H := h
theorem k_dg {a : Addr} {kvs : List (Key × V)} {k : Key} {v : V} {R : V → Prop} (e : H a = some (.dK kvs)) (g : valV kvs k = some v) (h : R v) : ∃ a' v', V.ref a = .ref a' ∧ DGet H a' (kV k) (some v') ∧ R v' := by
  refine ⟨a, v, rfl, ?_, h⟩
  rw [← g]
  exact DGet.k e
theorem k_dgS {a : Addr} {kvs : List (Key × V)} {z : Str} {v : V} {R : V → Prop} (e : H a = some (.dK kvs)) (g : valV kvs (Sum.inr z) = some v) (h : R v) : ∃ a' v', V.ref a = .ref a' ∧ DGet H a' (V.str z) (some v') ∧ R v' := k_dg (k := Sum.inr z) e g h
theorem k_dpS {a : Addr} {kvs : List (Key × V)} {z : Str} {v : V} {R : Hp → Prop} (e : H a = some (.dK kvs)) (l : kvs.length < 100000) (h : R (upd H a (.dK (putK kvs (Sum.inr z) v)))) : ∃ a' H4, V.ref a = .ref a' ∧ DPut H a' (V.str z) v H4 ∧ R H4 :=
  ⟨a, _, rfl, DPut.k (k := Sum.inr z) e (k_szL l), h⟩
theorem k_dp {a : Addr} {kvs : List (Key × V)} {k : Key} {v : V} {R : Hp → Prop} (e : H a = some (.dK kvs)) (l : kvs.length < 100000) (h : R (upd H a (.dK (putK kvs k v)))) : ∃ a' H4, V.ref a = .ref a' ∧ DPut H a' (kV k) v H4 ∧ R H4 :=
  ⟨a, _, rfl, DPut.k e (k_szL l), h⟩
theorem k_isNv {ta : TE} (h : ta σ H fun x H1 => Q (.bl (decide (x = .non))) H1) : tIsN ta σ H Q := h
theorem k_notNv {ta : TE} (h : ta σ H fun x H1 => Q (.bl (!decide (x = .non))) H1) : tNotN ta σ H Q := h
theorem k_disp3 {k1 v1 k2 v2 k3 v3 : TE} (h : ∀ p, H p = none → k1 σ (upd H p (.dK [])) fun x1 H1 => v1 σ H1 fun y1 H2 => k2 σ H2 fun x2 H3 => v2 σ H3 fun y2 H4 => k3 σ H4 fun x3 H5 => v3 σ H5 fun y3 H6 =>
    H6 p = some (.dK []) ∧ ∃ kvs : List (Key × V), [(x1, y1), (x2, y2), (x3, y3)] = kvs.map (fun kv => (kV kv.1, kv.2)) ∧ kvs.length ≤ 15 ∧ Q (.ref p) (upd H6 p (.dK (mergeK [] kvs)))) : tDisp [(k1, v1), (k2, v2), (k3, v3)] σ H Q := h
theorem k_str {te : TE} {R : It → Hp → Prop} (h : te σ H fun x H1 => ∃ z, x = .str z ∧ R (Its z) H1) : iStr te σ H R := h
theorem k_enumT {K : PySem.W.Frag} {ta : TA} {R : It → Hp → Prop} (h : ta σ H fun vs H1 => ∃ a xs, vs = [.ref a] ∧ SqT K H1 a xs ∧ R (IteT K a) H1) : iEnumT K ta σ H R := h
end
/-! ### keys that are texts -/
theorem sne {a b : Str} (h : ¬ a = b) : ¬ (Sum.inr a : Key) = Sum.inr b := fun z => h (Sum.inr.inj z)
theorem kv_hit {k : Key} {v : V} {r : List (Key × V)} : valV ((k, v) :: r) k = some v := by
  unfold valV
  rw [List.find?_cons_of_pos (by simp)]
  rfl
theorem kv_miss {k j : Key} {v : V} {r : List (Key × V)} (h : ¬ j = k) : valV ((j, v) :: r) k = valV r k := by
  unfold valV
  rw [List.find?_cons_of_neg (by simpa using h)]
theorem kv_nil {k : Key} : valV ([] : List (Key × V)) k = none := rfl
/-! ### the deck -/
def dkv (c : Addr) (m n : Int) : List (Key × V) := [(Sum.inr "cells", .ref c), (Sum.inr "mixed", .int m), (Sum.inr "turn", .int n)]
theorem cm : ¬ ("cells" : Str) = "mixed" := by decide +kernel
theorem ct : ¬ ("cells" : Str) = "turn" := by decide +kernel
theorem mt : ¬ ("mixed" : Str) = "turn" := by decide +kernel
theorem dkv_cells {c : Addr} {m n : Int} : valV (dkv c m n) (Sum.inr "cells") = some (.ref c) := kv_hit
theorem dkv_mixed {c : Addr} {m n : Int} : valV (dkv c m n) (Sum.inr "mixed") = some (.int m) := (kv_miss (sne cm)).trans kv_hit
theorem dkv_turn {c : Addr} {m n : Int} : valV (dkv c m n) (Sum.inr "turn") = some (.int n) := (kv_miss (sne ct)).trans ((kv_miss (sne mt)).trans kv_hit)
theorem dkv_put {c : Addr} {m n y : Int} : putK (dkv c m n) (Sum.inr "turn") (.int y) = dkv c m y := by
  have e : ((dkv c m n).any fun kv => decide (kv.1 = (Sum.inr "turn" : Key))) = true := by
    simp [dkv]
  unfold putK
  rw [if_pos e]
  unfold dkv
  rw [List.map_cons, List.map_cons, List.map_cons, List.map_nil]
  rw [if_neg (by simpa using sne ct), if_neg (by simpa using sne mt), if_pos rfl]
theorem dkv_merge (c : Addr) (m n : Int) : mergeK [] (dkv c m n) = dkv c m n := by
  have p : ∀ (kvs : List (Key × V)) (k : Key) (v : V), valV kvs k = none → putK kvs k v = kvs ++ [(k, v)] := fun kvs k v h => putK_new _ h
  unfold mergeK dkv
  simp only [List.foldl_cons, List.foldl_nil]
  rw [p [] _ _ kv_nil, p, p]
  · rfl
  · exact (show valV [((Sum.inr "cells" : Key), V.ref c), (Sum.inr "mixed", V.int m)] (Sum.inr "turn") = none from (kv_miss (sne ct)).trans ((kv_miss (sne mt)).trans kv_nil))
  · exact (show valV [((Sum.inr "cells" : Key), V.ref c)] (Sum.inr "mixed") = none from (kv_miss (sne cm)).trans kv_nil)
def Dk (d c : Addr) (a : Addr) : Prop := a = d ∨ a = c
/-- b: at most so often it was drawn -/
def Deck (d c : Addr) (b : Int) (H : Hp) : Prop := ∃ (xs : List Int) (m n : Int), d ≠ c ∧ H d = some (.dK (dkv c m n)) ∧ H c = some (.lst (xs.map V.int)) ∧ 0 ≤ m ∧ m < 4294967296 ∧ 0 ≤ n ∧ n ≤ b ∧ xs.length ≤ 63
section
variable {d c p : Addr} {b b' : Int} {H H' : Hp} {M : Addr → Prop} {o : HO}
theorem Deck.mono (D : Deck d c b H) (h : b ≤ b') : Deck d c b' H := by
  obtain ⟨xs, m, n, ne, h1, h2, m0, m1, n0, n1, l⟩ := D
  exact ⟨xs, m, n, ne, h1, h2, m0, m1, n0, Int.le_trans n1 h, l⟩
theorem Deck.same (D : Deck d c b H) (s : Same H H') : Deck d c b H' := by
  obtain ⟨xs, m, n, ne, h1, h2, r⟩ := D
  exact ⟨xs, m, n, ne, s _ _ h1, s _ _ h2, r⟩
theorem Deck.new (D : Deck d c b H) (n : H p = none) : Deck d c b (upd H p o) := D.same (Same.upd n)
theorem Deck.off (D : Deck d c b H) (n : H p = none) : ¬ Dk d c p := by
  obtain ⟨xs, m, k, _, h1, h2, _⟩ := D
  rintro (rfl | rfl)
  · rw [h1] at n; cases n
  · rw [h2] at n; cases n
theorem Deck.kinds (D : Deck d c b H) (h : H p = some o) (n : ∀ xs, o ≠ .lst xs) (n2 : ∀ kvs, o ≠ .dK kvs) : ¬ Dk d c p := by
  obtain ⟨xs, m, k, _, h1, h2, _⟩ := D
  rintro (rfl | rfl)
  · rw [h1] at h
    cases h
    exact n2 _ rfl
  · rw [h2] at h
    cases h
    exact n _ rfl
theorem Deck.keep (D : Deck d c b H) (x : Ext M H H') (n1 : ¬ M d) (n2 : ¬ M c) : Deck d c b H' := by
  obtain ⟨xs, m, k, ne, h1, h2, r⟩ := D
  exact ⟨xs, m, k, ne, x.2 _ _ n1 h1, x.2 _ _ n2 h2, r⟩
theorem Deck.offL (D : Deck d c b H') (n : ¬ Dk d c p) : Deck d c b (upd H' p o) := by
  obtain ⟨xs, m, k, ne, h1, h2, r⟩ := D
  exact ⟨xs, m, k, ne, (upd_ne fun z => n (.inl z.symm)).trans h1, (upd_ne fun z => n (.inr z.symm)).trans h2, r⟩
theorem same_free (s : Same H H') (h : H' p = none) : H p = none := L2.Same.free s h
theorem same_off (s : Same H H') (n : H p = none) : Same H (upd H' p o) := fun a u e => by
  rw [upd_ne (ne_of_none e n)]
  exact s a u e
theorem ext_off (x : Ext M H H') (n : H p = none) : Ext M H (upd H' p o) := by
  refine ⟨fun a xs e => ?_, fun a u na e => ?_⟩
  · rw [upd_ne (ne_of_none e n)]
    exact x.1 a xs e
  · rw [upd_ne (ne_of_none e n)]
    exact x.2 a u na e
end
def Tups (H H' : Hp) : Prop := ∀ a xs, H a = some (.tup xs) → H' a = some (.tup xs)
theorem Tups.trans {H H1 H2 : Hp} (a : Tups H H1) (b : Tups H1 H2) : Tups H H2 := fun x xs h => b x xs (a x xs h)
theorem Tups.refl (H : Hp) : Tups H H := fun _ _ h => h
theorem Tups.same {H H' : Hp} (s : Same H H') : Tups H H' := fun a xs h => s a _ h
theorem tups_upd {H : Hp} {p : Addr} {o u : HO} (h : H p = some u) (n : ∀ xs, u ≠ .tup xs) : Tups H (upd H p o) := fun a xs e => by
  have na : a ≠ p := fun z => by
    rw [z, h] at e
    exact n xs (Option.some.inj e)
  rw [upd_ne na]
  exact e
theorem tups_new {H : Hp} {p : Addr} {o : HO} (h : H p = none) : Tups H (upd H p o) := fun a xs e => lk_new e h
theorem Ext.tups {M : Addr → Prop} {H H' : Hp} (x : Ext M H H') : Tups H H' := x.1
theorem passOwnA {X : Cx} {σ : L2.St} {E : XK} : PassesAt CX0 X σ E := fun _ _ _ _ _ _ h => h.elim
section
variable {σ : L2.St} {H : Hp} {Q : VK} {ta tb tc : TE} {r r' : R2}
theorem k_chain (h : ta σ H fun x H1 => tb σ H1 fun y H2 => r x y H2 fun z H3 => ∃ k, z = .bl k ∧ (if k = true then tc σ H3 fun w' H4 => r' y w' H4 Q else Q (.bl false) H3)) : tChain r r' ta tb tc σ H Q := h
end
/-! ### comprehensions that only lay new things -/
section
variable {J : It} {n : Nat} {G : Hp → Prop} {Y : Nat → Hp → V → Hp → Prop} {g : TG} {tt : TT} {te : TE} {vs : List Nat} {σ : L2.St} {H1 : Hp} {D : Addr} {Qd : Hp → Prop}
theorem lc_same (w : Walk J n G Y) (F : Nat → V) (p : Nat → Bool) (hn : n < 100000) (hD : H1 D = none) (hG : ∀ H, Same H1 H → G H)
    (hs : ∀ k x H H', k < n → Same H1 H → Y k H x H' → ∀ (Q : VK) (R : Hp → Prop), (p k = true → ∀ H4, Same H H4 → Q (F k) H4) → (p k = false → ∀ H4, Same H H4 → R H4) →
      g x (wipe σ vs) H' fun σ2 H2 => wipe σ2 vs = wipe σ vs ∧ tt σ2 H2 fun b H3 => if b = true then te σ2 H3 Q else R H3)
    (hd : ∀ H, Same H1 H → H D = some (.lst (((List.range n).filter p).map F)) → Qd H) :
    ∃ W : Nat → Nat → Hp → Prop, (∃ m, W 0 m (upd H1 D (.lst []))) ∧ ∀ i m H, W i m H →
      (J.stop i H ∧ Qd H) ∨ (J.go i H ∧ ∃ Nx : Hp → Prop, (∀ H', Nx H' → ∃ m', m' < m ∧ W (i + 1) m' H') ∧ ∀ x H', J.yld i H x H' → g x (wipe σ vs) H' fun σ2 H2 => wipe σ2 vs = wipe σ vs ∧ tt σ2 H2 fun b H3 =>
        if b = true then te σ2 H3 fun y H4 => ∃ acc, H4 D = some (.lst acc) ∧ acc.length < sizeLine ∧ Nx (upd H4 D (.lst (acc ++ [y]))) else Nx H3) := by
  refine lc_it w (fun k H => Same H1 H ∧ H D = some (.lst (((List.range k).filter p).map F))) ⟨Same.upd hD, upd_same⟩ (fun k H _ h => hG H h.1) (fun k x H H' hk h y => ?_) fun H h => hd H h.1 h.2
  obtain ⟨s1, hd1⟩ := h
  refine hs k x H H' hk s1 y _ _ (fun hp H4 s4 => ?_) fun hp H4 s4 => ?_
  · refine ⟨_, s4 _ _ hd1, k_szL ?_, same_off (s1.trans s4) hD, ?_⟩
    · rw [List.length_map]
      have := List.length_filter_le p (List.range k)
      rw [List.length_range] at this
      omega
    · rw [upd_same, List.range_succ, List.filter_append, List.filter_cons_of_pos hp, List.filter_nil, List.map_append]
      rfl
  · refine ⟨s1.trans s4, ?_⟩
    rw [List.range_succ, List.filter_append, List.filter_cons_of_neg (by rw [hp]; exact Bool.false_ne_true), List.filter_nil, List.append_nil]
    exact s4 _ _ hd1
end
theorem range_all (n : Nat) : (List.range n).filter (fun _ => true) = List.range n := List.filter_eq_self.mpr fun _ _ => rfl
theorem range_get {α β : Type} (xs : List α) (f : Nat → β) (h : α → β) (e : ∀ k x, xs[k]? = some x → f k = h x) : (List.range xs.length).map f = xs.map h := by
  refine List.ext_getElem? fun k => ?_
  rw [List.getElem?_map, List.getElem?_map]
  by_cases hk : k < xs.length
  · rw [List.getElem?_range hk, List.getElem?_eq_getElem hk]
    exact congrArg some (e k _ (List.getElem?_eq_getElem hk))
  · rw [List.getElem?_eq_none (by rw [List.length_range]; omega), List.getElem?_eq_none (by omega)]
    rfl
section
variable {K : PySem.W.Frag} {a b : Addr} {xs ys : List V}
theorem walk_zipT {n : Nat} (hn : n = min xs.length ys.length) : Walk (RZ.ItzT K a b) n (fun H => SqT K H a xs ∧ SqT K H b ys) (YPair (fun i => xs[i]?) (fun i => ys[i]?)) :=
  ⟨fun i H h q => ⟨xs, ys, _, _, q.1, q.2, List.getElem?_eq_getElem (by omega), List.getElem?_eq_getElem (by omega)⟩, fun H q => ⟨xs, ys, q.1, q.2, by omega⟩,
    fun i H x H' h q ⟨T, y, z, e1, e2, e3, e4, e5⟩ => ⟨T, y, z, e1, e2, e3, e4 xs q.1, e5 ys q.2⟩⟩
end
/-! ### slices -/
theorem cut_from {xs : List V} {k : Nat} : cutV xs (some (k : Int)) none = xs.drop k := by
  unfold cutV
  rw [HT.sIx_nat, HT.sIx_none]
  by_cases h : k ≤ xs.length
  · rw [Nat.min_eq_left h, List.take_of_length_le (by rw [List.length_drop]; exact Nat.le_refl _)]
  · rw [Nat.min_eq_right (by omega), Nat.sub_self, List.take_zero, List.drop_eq_nil_of_le (by omega)]
theorem cut_to {xs : List V} {k : Nat} : cutV xs none (some (k : Int)) = xs.take k := by
  unfold cutV
  rw [HT.sIx_nat, HT.sIx_none, List.drop_zero, Nat.sub_zero]
  by_cases h : k ≤ xs.length
  · rw [Nat.min_eq_left h]
  · rw [Nat.min_eq_right (by omega), List.take_length, List.take_of_length_le (by omega)]
theorem sla_of {K : PySem.W.Frag} {H : Hp} {Q : VK} {a : Addr} {xs ys : List V} {lo hi : Option Int} (ha : H a = some (.tup xs)) (e : cutV xs lo hi = ys) (h : ∀ b H', Same H H' → H' b = some (.tup ys) → Q (.ref b) H') : rSlA K (.ref a) lo hi H Q := by
  refine ⟨a, xs, rfl, SqT.of ha, fun z => h a H (Same.refl H) ?_, fun _ p hp => h p _ (Same.upd hp) (by rw [e]; exact upd_same)⟩
  have e2 : cutV xs lo hi = xs := by
    unfold cutV
    rw [z.1, z.2, List.drop_zero, Nat.sub_zero, List.take_length]
  rw [← e, e2]
  exact ha
theorem k_zipA {K : PySem.W.Frag} {ta : TA} {σ : L2.St} {H : Hp} {R : It → Hp → Prop} (h : ta σ H fun vs H1 => ∃ a b xs ys, vs = [.ref a, .ref b] ∧ ((SqL K H1 a xs ∧ SqL K H1 b ys ∧ R (Itz K a b) H1) ∨ (SqT K H1 a xs ∧ SqT K H1 b ys ∧ R (RZ.ItzT K a b) H1))) : RZ.iZipA K ta σ H R := h
end Own

set_option Elab.async false
set_option maxRecDepth 100000
set_option linter.unusedVariables false
/-! more steps -/
namespace Own
open PySem PySem.Spec PyProof.Rows L2
section
variable {A B : Prop}
theorem k_ifTt (h : A) : if true = true then A else B := by rwa [if_pos rfl]
theorem k_ifNf (h : A) : if (!false) = true then A else B := by
  rw [if_pos (by decide)]
  exact h
theorem k_ifFf (h : B) : if false = true then A else B := by rwa [if_neg (by decide)]
theorem k_ifNt (h : B) : if (!true) = true then A else B := by rwa [if_neg (by decide)]
end
theorem k_sure {c : Prop} [Decidable c] {A B : Prop} (h : c) (h1 : A) : if decide c = true then A else B := by
  rw [if_pos (decide_eq_true h)]
  exact h1
theorem k_sureN {c : Prop} [Decidable c] {A B : Prop} (h : c) (h1 : B) : if (!decide c) = true then A else B := by
  rw [if_neg (by rw [decide_eq_true h]; decide)]
  exact h1
theorem k_not1 {c : Prop} [Decidable c] {A B : Prop} (h : ¬ c) (h1 : B) : if decide c = true then A else B := by
  rw [if_neg (by rw [decide_eq_false h]; decide)]
  exact h1
theorem k_notN1 {c : Prop} [Decidable c] {A B : Prop} (h : ¬ c) (h1 : A) : if (!decide c) = true then A else B := by
  rw [if_pos (by rw [decide_eq_false h]; decide)]
  exact h1
theorem op_inK {X : Cx} {K : PySem.W.Frag} (h : X.K = K) : OpR X (compareOp .In) (rIn K false) := by
  subst h
  exact op_in_seq
theorem op_notInK {X : Cx} {K : PySem.W.Frag} (h : X.K = K) : OpR X (compareOp .NotIn) (rIn K true) := by
  subst h
  exact op_notIn_seq
section
variable {K : PySem.W.Frag} {σ : L2.St} {H : Hp} {Q : VK}
theorem isi_t {x : V} {A B : String} {b : Bool} (t : TyX K H x (.type A)) (e : kitB A B = some b) (h : Q (.bl b) H) : rIsi K [x, .ty B] H Q := ⟨_, _, _, _, b, rfl, .ty _, t, kit_ty e, h⟩
end
theorem all_map {α : Type} (xs : List α) (f : α → Bool) (h : ∀ x ∈ xs, f x = true) : (xs.map f).all id = true := List.all_eq_true.mpr fun b hb => by
  obtain ⟨x, hx, rfl⟩ := List.mem_map.mp hb
  exact h x hx
theorem inV_str {z : Str} {zs : List Str} (h : z ∈ zs) : inV (.str z) (zs.map V.str) = true := by
  unfold inV
  rw [List.any_eq_true]
  exact ⟨.str z, List.mem_map.mpr ⟨z, h, rfl⟩, by simp [eqV]⟩
theorem inV_strs {z : Str} {zs : List Str} : inV (.str z) (zs.map V.str) = decide (z ∈ zs) := by
  by_cases h : z ∈ zs
  · rw [inV_str h, decide_eq_true h]
  · rw [decide_eq_false h]
    unfold inV
    rw [List.any_eq_false]
    rintro v hv
    obtain ⟨y, hy, rfl⟩ := List.mem_map.mp hv
    have n : y ≠ z := fun e => h (e ▸ hy)
    simp [eqV, n]
theorem nodup_len {α : Type} [BEq α] [LawfulBEq α] : ∀ {zs cs : List α}, zs.Nodup → (∀ z ∈ zs, z ∈ cs) → zs.length ≤ cs.length
  | [], _, _, _ => Nat.zero_le _
  | z :: r, cs, nd, h => by
    have nd2 := List.nodup_cons.mp nd
    have hz := h z List.mem_cons_self
    have := nodup_len (cs := cs.erase z) nd2.2 fun y hy => (List.mem_erase_of_ne (fun e : y = z => nd2.1 (by rw [← e]; exact hy))).mpr (h y (List.mem_cons_of_mem _ hy))
    rw [List.length_erase_of_mem hz] at this
    have := List.length_pos_of_mem hz
    rw [List.length_cons]
    omega
/-- a statement that is not reached -/
theorem ps_nope {X : Cx} {st : Stmt} : PS X st (fun _ _ _ => False) := ⟨fun _ _ _ _ _ _ h => h.elim⟩
theorem pe_nope {X : Cx} {e : Expr} : PE X e (fun _ _ _ => False) := ⟨fun _ _ _ _ _ _ h => h.elim⟩
theorem k_din {td ty : TE} {σ : L2.St} {H : Hp} {Q : VK} (h : ty σ H fun y H1 => td σ H1 fun x H2 => ∃ a o, x = V.ref a ∧ DGet H2 a y o ∧ Q (V.bl o.isSome) H2) : tDIn ty td σ H Q := h
theorem k_fld {K : PySem.W.Frag} {ta tv : TE} {f : Str} {D : Ends} {σ : L2.St} {H : Hp} (h : tv σ H fun y H1 => ta σ H1 fun x H2 => ∃ a C dx fs, x = V.ref a ∧ H2 a = some (HO.ins C dx fs) ∧ Cls K C ∧ NoAttr K C f ∧ fs.length < 1000 ∧ D.nx σ (upd H2 a (HO.ins C dx (putF f y fs)))) : sFld K ta tv f D σ H := h
theorem k_dnewK {σ : L2.St} {H : Hp} {Q : VK} (h : ∀ p, H p = none → Q (V.ref p) (upd H p (HO.dK []))) : tDNewK σ H Q := h
/-! ### in order -/
theorem perm_map {α β : Type} {f : α → β} {ys l : List β} (h : ys.Perm l) : ∀ ts : List α, l = ts.map f → ∃ zs : List α, zs.Perm ts ∧ zs.map f = ys := by
  induction h with
  | nil =>
    intro ts e
    exact ⟨ts, .refl _, e.symm⟩
  | cons x _ ih =>
    intro ts e
    match ts, e with
    | t :: ts, e =>
      obtain ⟨e1, e2⟩ := List.cons.inj e
      obtain ⟨zs, p, m⟩ := ih ts e2
      exact ⟨t :: zs, p.cons t, by rw [List.map_cons, m, e1]⟩
  | swap x y l =>
    intro ts e
    match ts, e with
    | a :: b :: ts, e =>
      obtain ⟨e1, e2⟩ := List.cons.inj e
      obtain ⟨e2, e3⟩ := List.cons.inj e2
      exact ⟨b :: a :: ts, .swap a b ts, by rw [List.map_cons, List.map_cons, ← e1, ← e2, e3]⟩
  | trans _ _ ih1 ih2 =>
    intro ts e
    obtain ⟨zs, p, m⟩ := ih2 ts e
    obtain ⟨us, p2, m2⟩ := ih1 zs m.symm
    exact ⟨us, p2.trans p, m2⟩
theorem k_lc {wi : TI} {g : TG} {tt : TT} {te : TE} {vs : List Nat} {σ : L2.St} {H : Hp} {Q : VK} (h : wi σ H fun J H1 => ∀ D, H1 D = none → ∃ W : Nat → Nat → Hp → Prop, (∃ m, W 0 m (upd H1 D (.lst []))) ∧ ∀ i m H, W i m H →
      (J.stop i H ∧ Q (.ref D) H) ∨ (J.go i H ∧ ∃ Nx : Hp → Prop, (∀ H', Nx H' → ∃ m', m' < m ∧ W (i + 1) m' H') ∧ ∀ x H', J.yld i H x H' → g x (wipe σ vs) H' fun σ2 H2 => wipe σ2 vs = wipe σ vs ∧ tt σ2 H2 fun b H3 =>
        if b = true then te σ2 H3 fun y H4 => ∃ acc, H4 D = some (.lst acc) ∧ acc.length < sizeLine ∧ Nx (upd H4 D (.lst (acc ++ [y]))) else Nx H3)) : tLc wi g tt te vs σ H Q := h
/-- an f-string -/
def tJ (ts : List TE) : TE := fun σ H Q => tJs ts Str.empty σ H fun out H1 => Q (V.str out) H1
theorem k_tJ {ts : List TE} {σ : L2.St} {H : Hp} {Q : VK} (h : tJs ts Str.empty σ H fun out H1 => Q (V.str out) H1) : tJ ts σ H Q := h
theorem pe_tJ {X : Cx} {v1 v2 : Expr} {rest : List Expr} {ts : List TE} {pos : Pos} (h : PJ X (v1 :: v2 :: rest) ts) : PE X (.JoinedStr (v1 :: v2 :: rest) pos) (tJ ts) := pe_joined h
theorem k_tJc {t : TE} {ts : List TE} {acc : Str} {σ : L2.St} {H : Hp} {Q : Str → Hp → Prop} (h : t σ H fun x H1 => ∃ y : Str, x = .str y ∧ (acc ++ y).length ≤ sizeLine ∧ tJs ts (acc ++ y) σ H1 Q) : tJs (t :: ts) acc σ H Q := h
theorem k_tJn {acc : Str} {σ : L2.St} {H : Hp} {Q : Str → Hp → Prop} (h : Q acc H) : tJs [] acc σ H Q := h
theorem k_fmt {te : TE} {σ : L2.St} {H : Hp} {Q : VK} (h : te σ H fun x H1 => (∃ y : Str, x = .str y ∧ y.length ≤ sizeLine ∧ Q (.str y) H1) ∨ ∃ i : Int, x = .int i ∧ i.natAbs.log2 < 1920 ∧ Q (.str (toString i)) H1) : tFmt te σ H Q := h
theorem k_fmtS {z acc : Str} {Q : Str → Prop} {R : Int → Prop} (l : z.length ≤ sizeLine) (l2 : (acc ++ z).length ≤ sizeLine) (h : Q z) :
    (∃ y : Str, V.str z = .str y ∧ y.length ≤ sizeLine ∧ ∃ y1 : Str, V.str y = .str y1 ∧ (acc ++ y1).length ≤ sizeLine ∧ Q y1) ∨ ∃ i : Int, V.str z = .int i ∧ i.natAbs.log2 < 1920 ∧ R i := .inl ⟨z, rfl, l, z, rfl, l2, h⟩
theorem k_txt {z acc : Str} {Q : Str → Prop} (l : (acc ++ z).length ≤ sizeLine) (h : Q z) : ∃ y : Str, V.str z = .str y ∧ (acc ++ y).length ≤ sizeLine ∧ Q y := ⟨z, rfl, l, h⟩
theorem c_lenK {X : Cx} {K : PySem.W.Frag} (h : X.K = K) : CallR X (.builtin "len") (Own.rLen K) := by
  subst h
  exact c_len
theorem pe_makeR0 {X : Cx} {CX : CXT} {k : Nat} {f C : Addr} {sp : Sp} {E : XK} {x : Str} {p pos : Pos} (M : Mk X.K C f) (F : FnR X.prog X.w X.K X.mg X.base CX k f sp) (hr : Room (k + 1) X.A) (gl : Gl X x) (at_ : X.mg x = some (.ref C)) (px : Passes CX X E)
    (nodbg : (x == ("__debug__" : Str)) = false := by decide) : PE X (.Call (.Name x p) [] [] pos) (StX.tMakeR C sp E tNil) := by
  constructor
  intro pins s σ H Q I q
  refine wpAny_Call_Name_kw (ld_glob I gl at_ ?_ nodbg)
  have h := StX.run_makeR (us := []) (vs := []) M F hr px I .nil q
  refine PySem.W.callWith_K0 I.kIn M.kp ?_
  exact h
theorem k_makeR {C : Addr} {sp : Sp} {E : XK} {t : TA} {σ : L2.St} {H : Hp} {Q : VK} (h : t σ H fun vs H1 => ∀ (x dx : Addr), H1 x = none → H1 dx = none → dx ≠ x → sp (V.ref x :: vs) (upd (upd H1 dx (HO.own x)) x (HO.ins C dx [])) (fun v H2 => v = V.non ∧ Q (V.ref x) H2) E) : StX.tMakeR C sp E t σ H Q := h
end Own

set_option Elab.async false
set_option maxRecDepth 100000
set_option maxHeartbeats 4000000
set_option linter.unusedVariables false
namespace K03
open PySem PySem.Spec PyProof.Rows L2 Own
def top (i : Nat) : Stmt := PySem.Challenge.pw_ownwake_k03_texts_of_schemas.main.body.getD i (.Pass ⟨0, 0, 0, 0⟩)
-- steps
local macro_rules | `(tactic| walk_at "lk") => `(tactic| first
  | assumption | exact upd_same
  | ((with_reducible refine' lk_new ?e (by assumption)); (case e => walk_at "lk"))
  | ((with_reducible refine' lk_ext (by assumption) ?e); (case e => walk_at "lk"))
  | ((with_reducible refine' lk_same (by assumption) ?e); (case e => walk_at "lk")))
local macro_rules | `(tactic| walk_at "sq") => `(tactic| first | assumption | exact SqL.of (by walk_at "lk") | exact SqT.of (by walk_at "lk"))
local macro_rules | `(tactic| walk_at "r1") => `(tactic| first
  | with_reducible refine k_seq ?_ | with_reducible refine k_asg ?_ | with_reducible refine k_ret ?_ | with_reducible refine k_drop ?_ | with_reducible refine k_next ?_ | with_reducible refine k_ifS ?_
  | ((with_reducible refine' k_var ?e ?_); (case e => exact rfl)) | with_reducible refine k_c ?_ | with_reducible refine k_op ?_ | with_reducible refine k_un ?_ | with_reducible refine k_test ?_ | with_reducible refine k_B ?_
  | with_reducible refine k_and ?_ | with_reducible refine k_or ?_ | with_reducible refine k_not ?_ | with_reducible refine k_andV ?_ | with_reducible refine k_orV ?_ | with_reducible refine k_notV ?_ | with_reducible refine k_if ?_
  | with_reducible refine k_nil ?_ | with_reducible refine k_cons ?_ | with_reducible refine k_tup ?_ | with_reducible refine k_lst ?_ | with_reducible refine k_call ?_ | with_reducible refine k_cb ?_ | with_reducible refine k_ck ?_
  | with_reducible refine k_par ?_ | with_reducible refine k_par1 ?_ | with_reducible refine k_tr ?_ | with_reducible refine k_rI0 ?_ | with_reducible refine k_rU ?_
  | with_reducible refine k_gN ?_ | with_reducible refine k_gS ?_ | with_reducible refine k_gNil ?_ | with_reducible refine k_gCons ?_ | with_reducible refine k_bm0 ?_ | with_reducible refine k_bm ?_
  | with_reducible refine k_for ?_ | with_reducible refine k_iL ?_ | with_reducible refine k_iT ?_ | with_reducible refine k_iR1 ?_ | ((with_reducible refine k_iR1i ?e ?_); (case e => first | decide | exact ⟨by omega, by omega⟩))
  | with_reducible refine k_max ?_ | with_reducible refine k_isB ?_ | with_reducible refine k_sl ?_ | with_reducible refine k_noP ?_ | with_reducible refine k_part ?_ | with_reducible refine k_partI ?_ | with_reducible refine k_revL ?_
  | ((with_reducible refine' k_ixqT ?e ?f ?_); (case e => walk_at "sq"); (case f => first | exact rfl | exact atI_head))
  | ((with_reducible refine' k_ixqL ?e ?f ?_); (case e => walk_at "sq"); (case f => first | exact rfl | exact atI_head))
  | ((with_reducible refine' k_lenL ?e ?_); (case e => walk_at "sq"))
  | ((with_reducible refine' k_lenT ?e ?_); (case e => walk_at "sq"))
  | ((with_reducible refine' k_ixL ?e ?f ?_); (case e => walk_at "sq"); (case f => first | exact rfl | exact atI_head))
  | ((with_reducible refine' k_ixT ?e ?f ?_); (case e => walk_at "sq"); (case f => first | exact rfl | exact atI_head))
  | ((with_reducible refine k_eq ?e ?_); (case e => exact rfl)) | ((with_reducible refine k_ne ?e ?_); (case e => exact rfl))
  | ((with_reducible refine k_rI ?e ?_); (case e => first | assumption | omega | decide | exact ⟨by omega, by omega⟩ | exact .inl ⟨by omega, by omega⟩ | exact .inr ⟨by omega, by omega⟩)))
local macro_rules | `(tactic| walk_at "rd") => `(tactic| repeat walk_at "r1")
local macro_rules | `(tactic| walk_at "r2") => `(tactic| first
  | walk_at "r1"
  | with_reducible refine k_dget ?_
  | with_reducible refine k_dput ?_
  | with_reducible refine k_isNv ?_
  | with_reducible refine k_notNv ?_
  | with_reducible refine k_str ?_
  | with_reducible refine k_enumT ?_
  | with_reducible refine k_zipA ?_
  | with_reducible refine k_chain ?_
  | ((with_reducible refine' k_dgS ?e dkv_cells ?_); (case e => walk_at "lk"))
  | ((with_reducible refine' k_dgS ?e dkv_mixed ?_); (case e => walk_at "lk"))
  | ((with_reducible refine' k_dgS ?e dkv_turn ?_); (case e => walk_at "lk")))
local macro_rules | `(tactic| walk_at "rr") => `(tactic| repeat walk_at "r2")
-- steps end
abbrev s_deck : Stmt := top 23
theorem sc_deck : FnScope ["_law_script", "_law_cell", "_law_cells", "_law_mixed"] ["_law_script"] (defScope s_deck) :=
  ⟨rfl, rfl, rfl, by decide +kernel, rfl, by decide +kernel, by decide +kernel⟩
abbrev s_draw : Stmt := top 24
theorem sc_draw : FnScope ["_law_deck_here", "_law_many", "_law_cell", "_law_turn", "_law_number"] ["_law_deck_here", "_law_many"] (defScope s_draw) :=
  ⟨rfl, rfl, rfl, by decide +kernel, rfl, by decide +kernel, by decide +kernel⟩
abbrev s_pick : Stmt := top 25
theorem sc_pick : FnScope ["_law_deck_here", "_law_some"] ["_law_deck_here", "_law_some"] (defScope s_pick) :=
  ⟨rfl, rfl, rfl, by decide +kernel, rfl, by decide +kernel, by decide +kernel⟩
theorem dp_ints {K : PySem.W.Frag} {H : Hp} : ∀ xs : List Int, DpAll K H (xs.map V.int) (xs.map PyData.int)
  | [] => .nil
  | x :: xs => .cons (.int x) (dp_ints xs)
theorem lay_ints : ∀ xs : List Int, SeqAt.shaped (.list (xs.map PyData.int)) = true := by
  intro xs
  have h1 : ∀ ys : List Int, PyData.canLayAll0 (ys.map PyData.int) = true := by
    intro ys
    induction ys with
    | nil => rfl
    | cons y ys ih => simpa [PyData.canLayAll0, PyData.canLay0] using ih
  have h2 : ∀ ys : List Int, PyData.depthAll (ys.map PyData.int) = 0 := by
    intro ys
    induction ys with
    | nil => rfl
    | cons y ys ih => simp [PyData.depthAll, PyData.depth, ih]
  unfold SeqAt.shaped
  simp [PyData.canLay0, PyData.depth, h1, h2]
theorem eq_nil : PyData.eqv (.list []) (.list []) = true := by simp [PyData.eqv, PyData.eqvAll]

section
variable {P : Program} {w : World} {K : PySem.W.Frag} {mg : Str → Option Value} {g0 : Heap}
def spDraw : Sp := fun vs H Q _ => ∃ (d c : Addr) (b many : Int), vs = [.ref d, .int many] ∧ Deck d c b H ∧ b ≤ 1000000000 ∧ 0 < many ∧ many ≤ 1000000000000 ∧
  ∀ (r : Int) (H' : Hp), 0 ≤ r → r < many → Deck d c (b + 1) H' → Ext (Dk d c) H H' → Q (.int r) H'
theorem ok_draw {f : Addr} {fd : FuncData} (F : Fun K "_law_draw" "_law_draw" s_draw f fd) : GOk P w K mg g0 CX0 1 f fd ["_law_deck_here", "_law_many"] spDraw := by
  have nd := sc_draw.nd
  refine okG F sc_draw (fun vs H Q E h => ?_) (fun cdv A up s H vs Q E qt hr h => ?_)
  · obtain ⟨d, c, b, many, rfl, _⟩ := h
    rfl
  · obtain ⟨d, c, b, many, rfl, D, hb, h0, h1, k⟩ := h
    have hu := hu_of hr
    refine ⟨_, pss_cons (ps_dput hu (pv 0) pe_str (pe_op op_add (pe_dget hu (pv 0) pe_str (fun _ _ => rfl)) pe_int) rfl)
      (pss_cons (ps_set (i := 2) nd rfl (.inl rfl) (pe_dget hu (pv 0) pe_str (fun _ _ => rfl)))
      (Evl.pss_cut (ps_if (pt_cmpR (op_neD hr.units) (pe_dget hu (pv 0) pe_str (fun _ _ => rfl)) (pe_lst pa_nil) (nomark _))
        (pss_cons (ps_set (i := 2) nd rfl (.inl rfl) (pe_bm0 PySem.F.plainAttrs_list PySem.F.slot_list_pop PySem.F.type_list_pop mt_pop (pe_dget hu (pv 0) pe_str (fun _ _ => rfl))))
          (pss_cons (ps_if (pt_cmpR op_ge (pv 2) (pe_op op_pow pe_int pe_int) (nomark _))
            (pss_cons (ps_expr (pe_bm PySem.F.plainAttrs_list PySem.F.slot_list_append PySem.F.type_list_append mt_append (pe_dget hu (pv 0) pe_str (fun _ _ => rfl)) (pa_cons (pe_op op_fdivW (pv 2) (pv 1)) pa_nil)))
              (pss_one (ps_ret (pe_op op_mod (pv 2) (pv 1))))) pss_nil)
          (pss_one (ps_set (i := 2) nd rfl (.inl rfl) (pe_op op_add (pv 2) (pe_dget hu (pv 0) pe_str (fun _ _ => rfl))))))) pss_nil)
      (pss_cons (ps_set (i := 3) nd rfl (.inl rfl) (pe_dget hu (pv 0) pe_str (fun _ _ => rfl)))
      (pss_cons (ps_set (i := 4) nd rfl (.inl rfl) (pe_op op_mod (pe_op op_mul (pe_op op_add (pe_op op_add (pe_op op_mod (pv 2) pe_int) (pe_op op_mul (pe_op op_mul pe_int (pv 3)) (pv 3))) pe_int) pe_int) pe_int))
      (pss_cons (ps_set (i := 4) nd rfl (.inl rfl) (pe_op op_mod (pe_op op_add (pe_op op_add (pe_op op_mul (pv 4) (pv 4)) (pe_op op_mul pe_int (pv 3))) pe_int) pe_int))
      (pss_one (ps_ret (pe_op op_mod (pe_op op_fdiv (pe_op op_mod (pe_op op_mul (pv 4) pe_int) pe_int) pe_int) (pv 1))))))))), ?_⟩
    obtain ⟨xs, m, n, ne, hd, hc, m0, m1, n0, n1, hl⟩ := D
    walk_at "rr"
    refine k_dpS hd (by show 3 < 100000; decide) ?_
    rw [dkv_put]
    have x1 : Ext (Dk d c) H (upd H d (.dK (dkv c m (n + 1)))) := Ext.upd hd (.inl rfl) (fun _ z => by cases z)
    have hd1 : upd H d (.dK (dkv c m (n + 1))) d = some (.dK (dkv c m (n + 1))) := upd_same
    have hc1 : upd H d (.dK (dkv c m (n + 1))) c = some (.lst (xs.map V.int)) := (upd_ne ne.symm).trans hc
    generalize upd H d (.dK (dkv c m (n + 1))) = H1 at x1 hd1 hc1 ⊢
    walk_at "rr"
    let Mid : L2.St → Hp → Prop := fun σ' H' => ∃ (cell : Int) (ys : List Int), σ' = [some (.ref d), some (.int many), some (.int cell), none, none] ∧ Ext (Dk d c) H H' ∧
      H' d = some (.dK (dkv c m (n + 1))) ∧ H' c = some (.lst (ys.map V.int)) ∧ ys.length ≤ 63
    refine ⟨Mid, ?_, ?_⟩
    · walk_at "rr"
      refine ⟨k_sz rfl, fun p hp => ?_⟩
      have x2 : Ext (Dk d c) H (upd H1 p (.lst [])) := x1.trans (ext_new hp)
      have hd2 := lk_new (o := .lst []) hd1 hp
      have hc2 := lk_new (o := .lst []) hc1 hp
      have hp2 : upd H1 p (.lst []) p = some (.lst []) := upd_same
      generalize upd H1 p (.lst []) = H2 at x2 hd2 hc2 hp2 ⊢
      refine ⟨.list (xs.map .int), .list [], .lst (SqL.of hc2) (dp_ints xs), .lst (SqL.of hp2) .nil, lay_ints xs, lay_ints [], ?_⟩
      rcases List.eq_nil_or_concat xs with rfl | ⟨zs, z, rfl⟩
      · refine ⟨_, rfl, ?_⟩
        rw [show PyData.eqv (.list (List.map PyData.int [])) (.list []) = true from eq_nil]
        refine iteF ?_
        exact ⟨m, [], rfl, x2, hd2, hc2, Nat.zero_le _⟩
      · have hz : (zs.concat z).map V.int = zs.map V.int ++ [V.int z] := by simp
        have hz2 : zs.length ≤ 62 := by simp at hl; omega
        refine ⟨_, rfl, ?_⟩
        rw [show PyData.eqv (.list (List.map PyData.int (zs.concat z))) (.list []) = false by
          cases zs <;> simp [PyData.eqv, PyData.eqvAll]]
        refine iteT ?_
        walk_at "rr"
        refine ⟨k_tyL hc2, ?_⟩
        rw [hz] at hc2
        refine k_pop (v := .int z) hc2 (by simp) ?_
        rw [List.dropLast_concat]
        have x3 : Ext (Dk d c) H (upd H2 c (.lst (zs.map V.int))) := x2.trans (Ext.upd hc2 (.inr rfl) (fun _ z => by cases z))
        have hd3 : upd H2 c (.lst (zs.map V.int)) d = some (.dK (dkv c m (n + 1))) := (upd_ne ne).trans hd2
        have hc3 : upd H2 c (.lst (zs.map V.int)) c = some (.lst (zs.map V.int)) := upd_same
        generalize upd H2 c (.lst (zs.map V.int)) = H3 at x3 hd3 hc3 ⊢
        walk_at "rr"
        refine k_ite (fun _ => ?_) (fun _ => ?_)
        · walk_at "rr"
          refine ⟨k_tyL hc3, ?_⟩
          walk_at "rr"
          refine k_rI (wide_div (b := 40) h0 (by omega) (by decide) (by decide)) ?_
          walk_at "rr"
          refine k_app hc3 (by simp; exact Nat.lt_of_le_of_lt hz2 (by decide)) ?_
          walk_at "rr"
          refine k _ _ (Int.emod_nonneg _ (by omega)) (Int.emod_lt_of_pos _ h0) ⟨zs ++ [z / many], m, n + 1, ne, (upd_ne ne).trans hd3, ?_, m0, m1, by omega, by omega, by simp; omega⟩ ?_
          · rw [upd_same]
            simp
          · exact x3.trans (Ext.upd hc3 (.inr rfl) (fun _ z => by cases z))
        · walk_at "rr"
          exact ⟨z + m, zs, rfl, x3, hd3, hc3, by omega⟩
    · rintro σ' H' ⟨cell, ys, rfl, x2, hd2, hc2, hy⟩
      walk_at "rr"
      exact k _ _ (Int.emod_nonneg _ (by omega)) (Int.emod_lt_of_pos _ h0) ⟨ys, m, n + 1, ne, hd2, hc2, m0, m1, by omega, by omega, hy⟩ x2

theorem atI_in {xs : List V} {r : Int} (h0 : 0 ≤ r) (h1 : r < (xs.length : Int)) : ∃ x, x ∈ xs ∧ atI xs r = some x := by
  have h2 : r.toNat < xs.length := by omega
  refine ⟨xs[r.toNat], List.getElem_mem h2, ?_⟩
  have e : ((r.toNat : Nat) : Int) = r := by omega
  have q : atI xs ((r.toNat : Nat) : Int) = some xs[r.toNat] := atI_nat (List.getElem?_eq_getElem h2)
  rw [e] at q
  exact q
def spPick : Sp := fun vs H Q _ => ∃ (d c l : Addr) (b : Int) (xs : List V), vs = [.ref d, .ref l] ∧ Deck d c b H ∧ b ≤ 1000000000 ∧ ¬ Dk d c l ∧ H l = some (.lst xs) ∧ 0 < xs.length ∧ xs.length ≤ 1000 ∧
  ∀ (x : V) (H' : Hp), x ∈ xs → Deck d c (b + 1) H' → Ext (Dk d c) H H' → Q x H'
theorem ok_pick {f : Addr} {fd : FuncData} (F : Fun K "_law_pick" "_law_pick" s_pick f fd) (z_len : mg "len" = none)
    (C_draw : Cal P w K mg g0 "_law_draw" 1 ["_law_deck_here", "_law_many"] spDraw) : GOk P w K mg g0 CX0 2 f fd ["_law_deck_here", "_law_some"] spPick := by
  have nd := sc_pick.nd
  refine okG F sc_pick (fun vs H Q E h => ?_) (fun cdv A up s H vs Q E qt hr h => ?_)
  · obtain ⟨d, c, l, b, xs, rfl, _⟩ := h
    rfl
  · obtain ⟨d, c, l, b, xs, rfl, D, hb, ml, hl, l0, l1, k⟩ := h
    refine ⟨_, (pss_one (ps_ret (pe_ix ix_seq (pv 1) (pe_c C_draw qt (hr.mono (by decide)) (pa_cons (pv 0) (pa_cons (pe_callB (c_lenK (K := K) rfl) (by rfl) z_len (by decide +kernel) (pa_cons (pv 1) pa_nil)) pa_nil))) (fun _ _ => rfl)))), ?_⟩
    walk_at "rr"
    refine ⟨d, c, b, _, rfl, D, hb, by omega, by omega, fun r H' r0 r1 D' x' => ?_⟩
    obtain ⟨x, hx, he⟩ := atI_in r0 r1
    refine k_ixqL (SqL.of (x'.2 _ _ ml hl)) he ?_
    exact k x H' hx D' x'
theorem cut_ints (ns : List Int) (lo hi : Option Int) : ∃ ms : List Int, cutV (ns.map V.int) lo hi = ms.map V.int ∧ ms.length ≤ ns.length := by
  refine ⟨(ns.drop (HT.sIx ns.length 0 lo)).take (HT.sIx ns.length ns.length hi - HT.sIx ns.length 0 lo), ?_, ?_⟩
  · unfold cutV
    rw [List.length_map, List.map_take, List.map_drop]
  · rw [List.length_take, List.length_drop]
    omega
def spDeck (K : PySem.W.Frag) : Sp := fun vs H Q _ => ∃ (a : Addr) (ns : List Int), vs = [.ref a] ∧ SqL K H a (ns.map V.int) ∧ ns.length ≤ 63 ∧
  ∀ (d c : Addr) (H' : Hp), H d = none → H c = none → Deck d c 0 H' → Same H H' → Q (.ref d) H'
theorem ok_deck {f : Addr} {fd : FuncData} (F : Fun K "_law_deck" "_law_deck" s_deck f fd) (z_list : mg "list" = none) : GOk P w K mg g0 CX0 1 f fd ["_law_script"] (spDeck K) := by
  have nd := sc_deck.nd
  refine okG F sc_deck (fun vs H Q E h => ?_) (fun cdv A up s H vs Q E qt hr h => ?_)
  · obtain ⟨a, ns, rfl, _⟩ := h
    rfl
  · obtain ⟨a, ns, rfl, hS, hl, k⟩ := h
    refine ⟨_, (pss_cons (ps_par (i := 2) (j := 3) (by rfl) nd rfl rfl (by decide) rfl rfl (pa_cons (pe_callTy c_list (by rfl) z_list (by decide +kernel) (pa_cons (pe_slice sl_list (pv 0) po_none (po_some pe_int)) pa_nil)) (pa_cons pe_int pa_nil)) (by rfl))
        (pss_cons (ps_for PassesOwn.never rfl (pi_list (pv 2)) (pg_name (i := 1) nd rfl (Or.inl rfl)) (pss_one (ps_set (i := 3) nd rfl (Or.inl rfl) (pe_op op_mod (pe_op op_add (pe_op op_add (pe_op op_mul (pv 3) pe_int) (pe_op op_mod (pv 1) pe_int)) pe_int) pe_int))))
        (pss_one (ps_ret (pe_disp (pps_cons pe_str (pe_revL (pv 2)) (pps_cons pe_str (pv 3) (pps_cons pe_str pe_int pps_nil))) rfl rfl (by decide) (by decide)))))), ?_⟩
    walk_at "rr"
    refine k_slL hS (fun p hp => ?_)
    obtain ⟨ms, em, lm⟩ := cut_ints ns none (some 63)
    rw [em]
    have s1 : Same H (upd H p (.lst (ms.map V.int))) := Same.upd hp
    have hp1 : upd H p (.lst (ms.map V.int)) p = some (.lst (ms.map V.int)) := upd_same
    generalize upd H p (.lst (ms.map V.int)) = H1 at s1 hp1 ⊢
    walk_at "rr"
    refine k_listL (SqL.of hp1) (fun q hq => ?_)
    have s2 : Same H (upd H1 q (.lst (ms.map V.int))) := s1.trans (Same.upd hq)
    have hq2 : upd H1 q (.lst (ms.map V.int)) q = some (.lst (ms.map V.int)) := upd_same
    generalize upd H1 q (.lst (ms.map V.int)) = H2 at s2 hq2 ⊢
    walk_at "rr"
    let Pv : Nat → L2.St → Hp → Prop := fun i σ H' => ∃ (m : Int) (v : Option V), σ = [some (.ref a), v, some (.ref q), some (.int m)] ∧ H2 = H' ∧ 0 ≤ m ∧ m < 4294967296
    refine ⟨q, rfl, ⟨_, SqL.of hq2⟩, for_list (xs := ms.map V.int) Pv ⟨_, _, rfl, rfl, by decide, by decide⟩ (fun i σ H' _ h => ?_) (fun i x σ H' hx h => ?_) (fun σ H' h => ?_)⟩
    · obtain ⟨m, v, rfl, rfl, _⟩ := h
      exact SqL.of hq2
    · obtain ⟨m, v, rfl, rfl, m0, m1⟩ := h
      rw [List.getElem?_map] at hx
      obtain ⟨z, hz, rfl⟩ := Option.map_eq_some_iff.mp hx
      walk_at "rr"
      exact ⟨_, _, rfl, rfl, by omega, by omega⟩
    · obtain ⟨m, v, rfl, rfl, m0, m1⟩ := h
      walk_at "rr"
      refine k_disp3 fun d hd => ?_
      have s3 : Same H (upd H2 d (.dK [])) := s2.trans (Same.upd hd)
      have hq3 := lk_new (o := .dK []) hq2 hd
      have hd3 : upd H2 d (.dK []) d = some (.dK []) := upd_same
      generalize upd H2 d (.dK []) = H3 at s3 hq3 hd3 ⊢
      walk_at "rr"
      refine ⟨q, _, rfl, SqL.of hq3, fun c hc => ?_⟩
      have ndc := ne_of_none hd3 hc
      have s4 : Same H (upd H3 c (.lst (ms.map V.int).reverse)) := s3.trans (Same.upd hc)
      have hd4 := lk_new (o := .lst (ms.map V.int).reverse) hd3 hc
      have hc4 : upd H3 c (.lst (ms.map V.int).reverse) c = some (.lst (ms.map V.int).reverse) := upd_same
      have hd0 := same_free s2 hd
      have hc0 := same_free s3 hc
      generalize upd H3 c (.lst (ms.map V.int).reverse) = H4 at s4 hd4 hc4 ⊢
      walk_at "rr"
      refine ⟨hd4, dkv c m 0, rfl, by show 3 ≤ 15; decide, ?_⟩
      rw [dkv_merge]
      refine k d c _ hd0 hc0 ⟨ms.reverse, m, 0, ndc, upd_same, ?_, m0, m1, Int.le_refl _, Int.le_refl _, ?_⟩ (same_off s4 hd0)
      · rw [upd_ne ndc.symm, hc4, List.map_reverse]
      · rw [List.length_reverse]
        omega
end
end K03

set_option Elab.async false
set_option maxRecDepth 100000
set_option maxHeartbeats 4000000
set_option linter.unusedVariables false
namespace K03
open PySem PySem.Spec PyProof.Rows L2 Own
-- steps
local macro_rules | `(tactic| walk_at "lk") => `(tactic| first
  | assumption | exact upd_same
  | ((with_reducible refine' lk_new ?e (by assumption)); (case e => walk_at "lk"))
  | ((with_reducible refine' lk_ext (by assumption) ?e); (case e => walk_at "lk"))
  | ((with_reducible refine' lk_same (by assumption) ?e); (case e => walk_at "lk")))
local macro_rules | `(tactic| walk_at "sq") => `(tactic| first | assumption | exact SqL.of (by walk_at "lk") | exact SqT.of (by walk_at "lk"))
local macro_rules | `(tactic| walk_at "r1") => `(tactic| first
  | with_reducible refine k_seq ?_ | with_reducible refine k_asg ?_ | with_reducible refine k_ret ?_ | with_reducible refine k_drop ?_ | with_reducible refine k_next ?_ | with_reducible refine k_ifS ?_
  | ((with_reducible refine' k_var ?e ?_); (case e => exact rfl)) | with_reducible refine k_c ?_ | with_reducible refine k_op ?_ | with_reducible refine k_un ?_ | with_reducible refine k_test ?_ | with_reducible refine k_B ?_
  | with_reducible refine k_and ?_ | with_reducible refine k_or ?_ | with_reducible refine k_not ?_ | with_reducible refine k_andV ?_ | with_reducible refine k_orV ?_ | with_reducible refine k_notV ?_ | with_reducible refine k_if ?_
  | with_reducible refine k_nil ?_ | with_reducible refine k_cons ?_ | with_reducible refine k_tup ?_ | with_reducible refine k_lst ?_ | with_reducible refine k_call ?_ | with_reducible refine k_cb ?_ | with_reducible refine k_ck ?_
  | with_reducible refine k_par ?_ | with_reducible refine k_par1 ?_ | with_reducible refine k_tr ?_ | with_reducible refine k_rI0 ?_ | with_reducible refine k_rU ?_
  | with_reducible refine k_gN ?_ | with_reducible refine k_gS ?_ | with_reducible refine k_gNil ?_ | with_reducible refine k_gCons ?_ | with_reducible refine k_bm0 ?_ | with_reducible refine k_bm ?_
  | with_reducible refine k_for ?_ | with_reducible refine k_iL ?_ | with_reducible refine k_iT ?_ | with_reducible refine k_iR1 ?_ | ((with_reducible refine k_iR1i ?e ?_); (case e => first | decide | exact ⟨by omega, by omega⟩))
  | with_reducible refine k_max ?_ | with_reducible refine k_isB ?_ | with_reducible refine k_sl ?_ | with_reducible refine k_noP ?_ | with_reducible refine k_part ?_ | with_reducible refine k_partI ?_ | with_reducible refine k_revL ?_
  | ((with_reducible refine' k_ixqT ?e ?f ?_); (case e => walk_at "sq"); (case f => first | exact rfl | exact atI_head))
  | ((with_reducible refine' k_ixqL ?e ?f ?_); (case e => walk_at "sq"); (case f => first | exact rfl | exact atI_head))
  | ((with_reducible refine' k_lenL ?e ?_); (case e => walk_at "sq"))
  | ((with_reducible refine' k_lenT ?e ?_); (case e => walk_at "sq"))
  | ((with_reducible refine' k_ixL ?e ?f ?_); (case e => walk_at "sq"); (case f => first | exact rfl | exact atI_head))
  | ((with_reducible refine' k_ixT ?e ?f ?_); (case e => walk_at "sq"); (case f => first | exact rfl | exact atI_head))
  | ((with_reducible refine k_eq ?e ?_); (case e => exact rfl)) | ((with_reducible refine k_ne ?e ?_); (case e => exact rfl))
  | ((with_reducible refine k_rI ?e ?_); (case e => first | assumption | omega | decide | exact ⟨by omega, by omega⟩ | exact .inl ⟨by omega, by omega⟩ | exact .inr ⟨by omega, by omega⟩)))
local macro_rules | `(tactic| walk_at "rd") => `(tactic| repeat walk_at "r1")
local macro_rules | `(tactic| walk_at "r2") => `(tactic| first
  | walk_at "r1"
  | with_reducible refine k_ifTt ?_ | with_reducible refine k_ifFf ?_ | with_reducible refine k_ifNt ?_ | with_reducible refine k_ifNf ?_
  | with_reducible refine k_makeR ?_ | with_reducible refine k_tJ ?_ | with_reducible refine k_tJc ?_ | with_reducible refine k_tJn ?_ | with_reducible refine k_fmt ?_ | with_reducible refine k_lc ?_ | with_reducible refine k_din ?_ | with_reducible refine k_fld ?_ | with_reducible refine k_dget ?_
  | with_reducible refine k_dput ?_
  | with_reducible refine k_isNv ?_
  | with_reducible refine k_notNv ?_
  | with_reducible refine k_str ?_
  | with_reducible refine k_enumT ?_
  | with_reducible refine k_zipA ?_
  | with_reducible refine k_chain ?_
  | ((with_reducible refine' k_dgS ?e dkv_cells ?_); (case e => walk_at "lk"))
  | ((with_reducible refine' k_dgS ?e dkv_mixed ?_); (case e => walk_at "lk"))
  | ((with_reducible refine' k_dgS ?e dkv_turn ?_); (case e => walk_at "lk")))
local macro_rules | `(tactic| walk_at "rr") => `(tactic| repeat walk_at "r2")
-- steps end
abbrev s_is_name : Stmt := top 7
theorem sc_is_name : FnScope ["thing", "letter"] ["thing"] (defScope s_is_name) :=
  ⟨rfl, rfl, rfl, by decide +kernel, rfl, by decide +kernel, by decide +kernel⟩
abbrev s_is_tuple : Stmt := top 8
theorem sc_is_tuple : FnScope ["thing", "size"] ["thing", "size"] (defScope s_is_tuple) :=
  ⟨rfl, rfl, rfl, by decide +kernel, rfl, by decide +kernel, by decide +kernel⟩
abbrev s_is_ascending : Stmt := top 9
theorem sc_is_ascending : FnScope ["things", "one", "other"] ["things"] (defScope s_is_ascending) :=
  ⟨rfl, rfl, rfl, by decide +kernel, rfl, by decide +kernel, by decide +kernel⟩
abbrev s__are_columns : Stmt := top 16
theorem sc__are_columns : FnScope ["thing", "column"] ["thing"] (defScope s__are_columns) :=
  ⟨rfl, rfl, rfl, by decide +kernel, rfl, by decide +kernel, by decide +kernel⟩
abbrev s__are_some : Stmt := top 17
theorem sc__are_some : FnScope ["thing", "columns", "column"] ["thing", "columns"] (defScope s__are_some) :=
  ⟨rfl, rfl, rfl, by decide +kernel, rfl, by decide +kernel, by decide +kernel⟩
abbrev s_is_table : Stmt := top 15
theorem sc_is_table : FnScope ["thing", "name", "columns", "indexes", "keyed"] ["thing"] (defScope s_is_table) :=
  ⟨rfl, rfl, rfl, by decide +kernel, rfl, by decide +kernel, by decide +kernel⟩
/-! ### names -/
theorem all_true {α : Type} (xs : List α) : (xs.map fun _ => true).all id = true := List.all_eq_true.mpr fun b hb => by
  obtain ⟨_, _, rfl⟩ := List.mem_map.mp hb
  rfl
def isLet (c : Nat) : Bool := decide (97 ≤ c) && decide (c ≤ 122)
def isNameB (z : Str) : Bool := decide (1 ≤ z.length) && decide (z.length ≤ 8) && z.cps.toList.all isLet
abbrev letters : Str := "abcdefghijklmnopqrstuvwxyz"
theorem let_in {c : Nat} (h : isLet c = true) : (!(Builtin.Str.occurrences letters ⟨#[c]⟩ 0 letters.length 1).isEmpty) = true := by
  have z : ∀ c : Nat, c < 123 → isLet c = true → (!(Builtin.Str.occurrences letters ⟨#[c]⟩ 0 letters.length 1).isEmpty) = true := by decide +kernel
  have h2 : c ≤ 122 := by
    unfold isLet at h
    simp at h
    exact h.2
  exact z c (by omega) h
section
variable {P : Program} {w : World} {K : PySem.W.Frag} {mg : Str → Option Value} {base : Heap}
def spName : Sp := fun vs H Q _ => ∃ z : Str, vs = [.str z] ∧ isNameB z = true ∧ ∀ H', Same H H' → Q (.bl true) H'
theorem ok_name {f : Addr} {fd : FuncData} (F : Fun K "is_name" "is_name" s_is_name f fd) (z_isinstance : mg "isinstance" = none) (z_str : mg "str" = none) (z_len : mg "len" = none) (z_all : mg "all" = none) {t : Tok} (c_LETTERS : mg "LETTERS" = some (.str letters t)) :
    FnOk P w K mg base CX0 1 f fd ["thing"] spName := by
  have nd := sc_is_name.nd
  refine F.ok sc_is_name (fun vs H Q E h => ?_) (fun cdv A up s H vs Q E hr h => ?_)
  · obtain ⟨z, rfl, _⟩ := h
    rfl
  · obtain ⟨z, rfl, hz, k⟩ := h
    refine ⟨_, (pss_one (ps_ret (pe_and (pe_callB call_isi (by rfl) z_isinstance (by decide +kernel) (pa_cons (pv 0) (pa_cons (pe_bltn (v := .ty "str") (by rfl) z_str PyProof.Rows.boot_str rfl) pa_nil))) (pe_and (pe_chain op_le op_le pe_int (pe_callB call_len_str (by rfl) z_len (by decide +kernel) (pa_cons (pv 0) pa_nil)) pe_int) (pe_one (pe_callB (cr_all rfl) (by rfl) z_all (by decide +kernel) (pa_cons (pe_lc (own := [("letter", 1)]) (g := (gName 1)) (tt := tYes) (te := (tOp _ (tVar 1) (tC (.str "abcdefghijklmnopqrstuvwxyz")))) (by rfl) nd (pi_str (pv 0)) (blkOk_by (own := [("letter", 1)]) (N := ["thing", "letter"]) (sc := defScope s_is_name) (by decide +kernel)) (fun _ _ _ _ _ => by exact (pg_name (i := 1) nd rfl (Or.inl rfl))) (fun _ _ _ _ _ => by exact pts_nil) (fun _ _ _ _ _ => by exact (pe_cmpR op_in_str (pv 1) (pe_glob (v := .str "abcdefghijklmnopqrstuvwxyz") rfl c_LETTERS ⟨_, rfl⟩) (by rfl)))) pa_nil))))))), ?_⟩
    walk_at "rr"
    refine isi_t (.base (.str z)) (b := true) (by decide +kernel) ?_
    walk_at "rr"
    walk_at "rr"
    have hz1 : 1 ≤ z.length ∧ z.length ≤ 8 ∧ z.cps.toList.all isLet = true := by
      unfold isNameB at hz
      simp only [Bool.and_eq_true, decide_eq_true_eq] at hz
      exact ⟨hz.1.1, hz.1.2, hz.2⟩
    obtain ⟨z1, z2, z3⟩ := hz1
    refine ⟨z, rfl, by rw [sizeLine_eq]; omega, ?_⟩
    walk_at "rr"
    refine k_iteD (fun _ => ?_) fun y => absurd (by omega) y
    walk_at "rr"
    refine k_iteD (fun _ => ?_) fun y => absurd (by omega) y
    walk_at "rr"
    walk_at "rr"
    refine ⟨z, rfl, fun D hD => ?_⟩
    refine lc_same walk_str (fun _ => .bl true) (fun _ => true) (by show z.cps.size < _; have : z.cps.size = z.length := rfl; omega) hD (fun _ _ => trivial) (fun k x H1 H2 hk s1 y Q1 R1 q1 _ => ?_) fun H1 s1 hD1 => ?_
    · obtain ⟨rfl, c, hc, rfl⟩ := y
      walk_at "rr"
      refine ⟨rfl, k_yes ?_⟩
      walk_at "rr"
      refine ⟨_, _, rfl, rfl, ?_⟩
      rw [let_in (List.all_eq_true.mp z3 c (by rw [Array.mem_toList_iff]; exact Array.mem_of_getElem? hc))]
      exact q1 rfl _ (Same.refl _)
    · rw [range_all] at hD1
      walk_at "rr"
      refine ⟨D, (List.range z.cps.size).map fun _ => true, rfl, SqL.of (by rw [hD1, List.map_map]; rfl), ?_⟩
      rw [all_true]
      exact k _ s1
def spTuple : Sp := fun vs H Q _ => ∃ (a : Addr) (xs : List V), vs = [.ref a, .int xs.length] ∧ H a = some (.tup xs) ∧ Q (.bl true) H
theorem ok_tuple {f : Addr} {fd : FuncData} (F : Fun K "is_tuple" "is_tuple" s_is_tuple f fd) (z_isinstance : mg "isinstance" = none) (z_tuple : mg "tuple" = none) (z_len : mg "len" = none) :
    FnOk P w K mg base CX0 1 f fd ["thing", "size"] spTuple := by
  have nd := sc_is_tuple.nd
  refine F.ok sc_is_tuple (fun vs H Q E h => ?_) (fun cdv A up s H vs Q E hr h => ?_)
  · obtain ⟨a, xs, rfl, _⟩ := h
    rfl
  · obtain ⟨a, xs, rfl, ha, k⟩ := h
    refine ⟨_, (pss_one (ps_ret (pe_and (pe_callB call_isi (by rfl) z_isinstance (by decide +kernel) (pa_cons (pv 0) (pa_cons (pe_bltn (v := .ty "tuple") (by rfl) z_tuple PyProof.Rows.boot_tuple rfl) pa_nil))) (pe_one (pe_cmpR op_eq (pe_callB (c_lenK (K := K) rfl) (by rfl) z_len (by decide +kernel) (pa_cons (pv 0) pa_nil)) (pv 1) (nomark _)))))), ?_⟩
    walk_at "rr"
    refine isi_t (.base (.tup ha)) (b := true) (by decide +kernel) ?_
    walk_at "rr"
    walk_at "rr"
    rw [decide_eq_true rfl]
    exact k
abbrev sLt (a b : Str) : Prop := a.cps.toList < b.cps.toList
def spAsc : Sp := fun vs H Q _ => ∃ (a : Addr) (zs : List Str), vs = [.ref a] ∧ H a = some (.tup (zs.map V.str)) ∧ zs.length ≤ 100 ∧ zs.Pairwise sLt ∧ ∀ H', Same H H' → Q (.bl true) H'
theorem ok_asc {f : Addr} {fd : FuncData} (F : Fun K "is_ascending" "is_ascending" s_is_ascending f fd) (z_zip : mg "zip" = none) (z_all : mg "all" = none) :
    FnOk P w K mg base CX0 1 f fd ["things"] spAsc := by
  have nd := sc_is_ascending.nd
  refine F.ok sc_is_ascending (fun vs H Q E h => ?_) (fun cdv A up s H vs Q E hr h => ?_)
  · obtain ⟨a, zs, rfl, _⟩ := h
    rfl
  · obtain ⟨a, zs, rfl, ha, hl, hp, k⟩ := h
    refine ⟨_, (pss_one (ps_ret (pe_callB (cr_all rfl) (by rfl) z_all (by decide +kernel) (pa_cons (pe_lc (own := [("one", 1), ("other", 2)]) (g := (gTup K 2 (gCons (gName 1) (gCons (gName 2) gNil)))) (tt := tYes) (te := (tOp _ (tVar 1) (tVar 2))) (by rfl) nd (RZ.pi_zipA (by rfl) z_zip (pa_cons (pv 0) (pa_cons (pe_slice sl_tupA (pv 0) (po_some pe_int) po_none) pa_nil))) (blkOk_by (own := [("one", 1), ("other", 2)]) (N := ["things", "one", "other"]) (sc := defScope s_is_ascending) (by decide +kernel)) (fun _ _ _ _ _ => by exact (pg_tup rfl (pgs_cons (pg_name (i := 1) nd rfl (Or.inl rfl)) (pgs_cons (pg_name (i := 2) nd rfl (Or.inl rfl)) pgs_nil)))) (fun _ _ _ _ _ => by exact pts_nil) (fun _ _ _ _ _ => by exact (pe_cmpR op_lt_str (pv 1) (pv 2) (nomark _)))) pa_nil)))), ?_⟩
    walk_at "rr"
    walk_at "rr"
    refine sla_of ha cut_from fun b H1 s1 hb => ?_
    rw [← List.map_drop] at hb
    walk_at "rr"
    refine ⟨a, b, _, _, rfl, .inr ⟨SqT.of (s1 _ _ ha), SqT.of hb, fun D hD => ?_⟩⟩
    refine lc_same (walk_zipT (n := zs.length - 1) (by simp only [List.length_map, List.length_drop]; omega)) (fun _ => .bl true) (fun _ => true) (by omega) hD (fun H2 s2 => ⟨SqT.of (s2 _ _ (s1 _ _ ha)), SqT.of (s2 _ _ hb)⟩) (fun k x H2 H3 hk s2 y Q1 R1 q1 _ => ?_) fun H2 s2 hD1 => ?_
    · obtain ⟨T, x1, x2, rfl, hT, rfl, e1, e2⟩ := y
      have e1 : (zs.map V.str)[k]? = some x1 := e1
      have e2 : ((zs.drop 1).map V.str)[k]? = some x2 := e2
      rw [List.getElem?_map] at e1 e2
      obtain ⟨y1, f1, rfl⟩ := Option.map_eq_some_iff.mp e1
      obtain ⟨y2, f2, rfl⟩ := Option.map_eq_some_iff.mp e2
      rw [List.getElem?_drop] at f2
      refine k_gTup (SqT.of upd_same) rfl ?_
      walk_at "rr"
      refine ⟨rfl, k_yes ?_⟩
      walk_at "rr"
      have lt : sLt y1 y2 := by
        obtain ⟨l1, rfl⟩ := List.getElem?_eq_some_iff.mp f1
        obtain ⟨l2, rfl⟩ := List.getElem?_eq_some_iff.mp f2
        exact List.pairwise_iff_getElem.mp hp _ _ l1 l2 (by omega)
      refine ⟨y1, y2, rfl, rfl, ?_⟩
      rw [decide_eq_true lt]
      exact q1 rfl _ (Same.upd hT)
    · rw [range_all] at hD1
      walk_at "rr"
      refine ⟨D, (List.range (zs.length - 1)).map fun _ => true, rfl, SqL.of (by rw [hD1, List.map_map]; rfl), ?_⟩
      rw [all_true]
      exact k _ (s1.trans s2)
end
end K03

set_option Elab.async false
set_option maxRecDepth 100000
set_option maxHeartbeats 4000000
set_option linter.unusedVariables false
namespace K03
open PySem PySem.Spec PyProof.Rows L2 Own
-- steps
local macro_rules | `(tactic| walk_at "lk") => `(tactic| first
  | assumption | exact upd_same
  | ((with_reducible refine' lk_new ?e (by assumption)); (case e => walk_at "lk"))
  | ((with_reducible refine' lk_ext (by assumption) ?e); (case e => walk_at "lk"))
  | ((with_reducible refine' lk_same (by assumption) ?e); (case e => walk_at "lk")))
local macro_rules | `(tactic| walk_at "sq") => `(tactic| first | assumption | exact SqL.of (by walk_at "lk") | exact SqT.of (by walk_at "lk"))
local macro_rules | `(tactic| walk_at "r1") => `(tactic| first
  | with_reducible refine k_seq ?_ | with_reducible refine k_asg ?_ | with_reducible refine k_ret ?_ | with_reducible refine k_drop ?_ | with_reducible refine k_next ?_ | with_reducible refine k_ifS ?_
  | ((with_reducible refine' k_var ?e ?_); (case e => exact rfl)) | with_reducible refine k_c ?_ | with_reducible refine k_op ?_ | with_reducible refine k_un ?_ | with_reducible refine k_test ?_ | with_reducible refine k_B ?_
  | with_reducible refine k_and ?_ | with_reducible refine k_or ?_ | with_reducible refine k_not ?_ | with_reducible refine k_andV ?_ | with_reducible refine k_orV ?_ | with_reducible refine k_notV ?_ | with_reducible refine k_if ?_
  | with_reducible refine k_nil ?_ | with_reducible refine k_cons ?_ | with_reducible refine k_tup ?_ | with_reducible refine k_lst ?_ | with_reducible refine k_call ?_ | with_reducible refine k_cb ?_ | with_reducible refine k_ck ?_
  | with_reducible refine k_par ?_ | with_reducible refine k_par1 ?_ | with_reducible refine k_tr ?_ | with_reducible refine k_rI0 ?_ | with_reducible refine k_rU ?_
  | with_reducible refine k_gN ?_ | with_reducible refine k_gS ?_ | with_reducible refine k_gNil ?_ | with_reducible refine k_gCons ?_ | with_reducible refine k_bm0 ?_ | with_reducible refine k_bm ?_
  | with_reducible refine k_for ?_ | with_reducible refine k_iL ?_ | with_reducible refine k_iT ?_ | with_reducible refine k_iR1 ?_ | ((with_reducible refine k_iR1i ?e ?_); (case e => first | decide | exact ⟨by omega, by omega⟩))
  | with_reducible refine k_max ?_ | with_reducible refine k_isB ?_ | with_reducible refine k_sl ?_ | with_reducible refine k_noP ?_ | with_reducible refine k_part ?_ | with_reducible refine k_partI ?_ | with_reducible refine k_revL ?_
  | ((with_reducible refine' k_ixqT ?e ?f ?_); (case e => walk_at "sq"); (case f => first | exact rfl | exact atI_head))
  | ((with_reducible refine' k_ixqL ?e ?f ?_); (case e => walk_at "sq"); (case f => first | exact rfl | exact atI_head))
  | ((with_reducible refine' k_lenL ?e ?_); (case e => walk_at "sq"))
  | ((with_reducible refine' k_lenT ?e ?_); (case e => walk_at "sq"))
  | ((with_reducible refine' k_ixL ?e ?f ?_); (case e => walk_at "sq"); (case f => first | exact rfl | exact atI_head))
  | ((with_reducible refine' k_ixT ?e ?f ?_); (case e => walk_at "sq"); (case f => first | exact rfl | exact atI_head))
  | ((with_reducible refine k_eq ?e ?_); (case e => exact rfl)) | ((with_reducible refine k_ne ?e ?_); (case e => exact rfl))
  | ((with_reducible refine k_rI ?e ?_); (case e => first | assumption | omega | decide | exact ⟨by omega, by omega⟩ | exact .inl ⟨by omega, by omega⟩ | exact .inr ⟨by omega, by omega⟩)))
local macro_rules | `(tactic| walk_at "rd") => `(tactic| repeat walk_at "r1")
local macro_rules | `(tactic| walk_at "r2") => `(tactic| first
  | walk_at "r1"
  | with_reducible refine k_ifTt ?_ | with_reducible refine k_ifFf ?_ | with_reducible refine k_ifNt ?_ | with_reducible refine k_ifNf ?_
  | with_reducible refine k_makeR ?_ | with_reducible refine k_tJ ?_ | with_reducible refine k_tJc ?_ | with_reducible refine k_tJn ?_ | with_reducible refine k_fmt ?_ | with_reducible refine k_lc ?_ | with_reducible refine k_din ?_ | with_reducible refine k_fld ?_ | with_reducible refine k_dget ?_
  | with_reducible refine k_dput ?_
  | with_reducible refine k_isNv ?_
  | with_reducible refine k_notNv ?_
  | with_reducible refine k_str ?_
  | with_reducible refine k_enumT ?_
  | with_reducible refine k_zipA ?_
  | with_reducible refine k_chain ?_
  | ((with_reducible refine' k_dgS ?e dkv_cells ?_); (case e => walk_at "lk"))
  | ((with_reducible refine' k_dgS ?e dkv_mixed ?_); (case e => walk_at "lk"))
  | ((with_reducible refine' k_dgS ?e dkv_turn ?_); (case e => walk_at "lk")))
local macro_rules | `(tactic| walk_at "rr") => `(tactic| repeat walk_at "r2")
-- steps end
section
variable {P : Program} {w : World} {K : PySem.W.Frag} {mg : Str → Option Value} {base : Heap}
def spCols : Sp := fun vs H Q _ => ∃ (a : Addr) (zs : List Str), vs = [.ref a] ∧ H a = some (.tup (zs.map V.str)) ∧ 1 ≤ zs.length ∧ zs.length ≤ 3 ∧ (∀ z ∈ zs, isNameB z = true) ∧ zs.Nodup ∧ ∀ H', Same H H' → Q (.bl true) H'
theorem ok_cols {f : Addr} {fd : FuncData} (F : Fun K "_are_columns" "_are_columns" s__are_columns f fd) (C_is_name : CalF P w K mg base "is_name" 1 ["thing"] spName)
    (z_isinstance : mg "isinstance" = none) (z_tuple : mg "tuple" = none) (z_len : mg "len" = none) (z_all : mg "all" = none) (z_set : mg "set" = none) {t : Tok} (c_MOST_COLUMNS : mg "MOST_COLUMNS" = some (.int 3 t)) :
    FnOk P w K mg base CX0 2 f fd ["thing"] spCols := by
  have nd := sc__are_columns.nd
  refine F.ok sc__are_columns (fun vs H Q E h => ?_) (fun cdv A up s H vs Q E hr h => ?_)
  · obtain ⟨a, zs, rfl, _⟩ := h
    rfl
  · obtain ⟨a, zs, rfl, ha, l1, l2, hn, hd, k⟩ := h
    refine ⟨_, (pss_cons (ps_if (PW.pt (pw_or (pt_not (pt_val (pe_callB call_isi (by rfl) z_isinstance (by decide +kernel) (pa_cons (pv 0) (pa_cons (pe_bltn (v := .ty "tuple") (by rfl) z_tuple PyProof.Rows.boot_tuple rfl) pa_nil))))) (pw_or1 (pt_not (pt_chain op_le op_le pe_int (pe_callB (c_lenK (K := K) rfl) (by rfl) z_len (by decide +kernel) (pa_cons (pv 0) pa_nil)) (pe_glob (v := .int 3) rfl c_MOST_COLUMNS ⟨_, rfl⟩)))))) (pss_one (ps_ret pe_bl)) pss_nil)
        (pss_one (ps_ret (pe_and (pe_callB (cr_all rfl) (by rfl) z_all (by decide +kernel) (pa_cons (pe_lc (own := [("column", 1)]) (g := (gName 1)) (tt := tYes) (te := (tCall _ [] E0 (tCons (tVar 1) tNil))) (by rfl) nd (pi_tup (pv 0)) (blkOk_by (own := [("column", 1)]) (N := ["thing", "column"]) (sc := defScope s__are_columns) (by decide +kernel)) (fun _ _ _ _ _ => by exact (pg_name (i := 1) nd rfl (Or.inl rfl))) (fun _ _ _ _ _ => by exact pts_nil) (fun _ _ _ _ _ => by exact (pe_cf C_is_name (hr.mono (by decide)) (pa_cons (pv 1) pa_nil)))) pa_nil)) (pe_one (pe_cmpR op_eq (pe_callB call_lenK (by rfl) z_len (by decide +kernel) (pa_cons (pe_callTy (call_setS rfl) (by rfl) z_set (by decide +kernel) (pa_cons (pv 0) pa_nil)) pa_nil)) (pe_callB (c_lenK (K := K) rfl) (by rfl) z_len (by decide +kernel) (pa_cons (pv 0) pa_nil)) (nomark _))))))), ?_⟩
    walk_at "rr"
    refine isi_t (.base (.tup ha)) (b := true) (by decide +kernel) ?_
    walk_at "rr"
    refine k_sure (by rw [List.length_map]; omega) ?_
    walk_at "rr"
    refine k_sureN (by rw [List.length_map]; omega) ?_
    walk_at "rr"
    walk_at "rr"
    refine ⟨_, rfl, ⟨_, SqT.of ha⟩, fun D hD => ?_⟩
    refine lc_same (walk_tup (xs := zs.map V.str)) (fun _ => .bl true) (fun _ => true) (by rw [List.length_map]; omega) hD (fun H2 s2 => SqT.of (s2 _ _ ha)) (fun k x H2 H3 hk s2 y Q1 R1 q1 _ => ?_) fun H2 s2 hD1 => ?_
    · obtain ⟨rfl, y⟩ := y
      have e : (zs.map V.str)[k]? = some x := y
      rw [List.getElem?_map] at e
      obtain ⟨z, hz, rfl⟩ := Option.map_eq_some_iff.mp e
      walk_at "rr"
      refine ⟨rfl, k_yes ?_⟩
      walk_at "rr"
      exact ⟨z, rfl, hn z (List.mem_of_getElem? hz), fun H4 s4 => q1 rfl _ s4⟩
    · rw [range_all] at hD1
      walk_at "rr"
      refine ⟨D, (List.range (zs.map V.str).length).map fun _ => true, rfl, SqL.of (by rw [hD1, List.map_map]; rfl), ?_⟩
      rw [all_true]
      walk_at "rr"
      refine ⟨a, zs, rfl, .inr (SqT.of (s2 _ _ ha)), by omega, fun p c hp hc => ?_⟩
      walk_at "rr"
      refine ⟨p, _, _, rfl, upd_same, ?_⟩
      walk_at "rr"
      obtain rfl := hc.2.mpr hd
      rw [decide_eq_true (by rw [List.length_map])]
      exact k _ (s2.trans (Same.upd hp))
def spSome : Sp := fun vs H Q _ => ∃ (a c : Addr) (zs cs : List Str), vs = [.ref a, .ref c] ∧ H a = some (.tup (zs.map V.str)) ∧ H c = some (.tup (cs.map V.str)) ∧ zs.length ≤ 100 ∧ (∀ z ∈ zs, z ∈ cs) ∧ zs.Pairwise sLt ∧ ∀ H', Same H H' → Q (.bl true) H'
theorem ok_some {f : Addr} {fd : FuncData} (F : Fun K "_are_some" "_are_some" s__are_some f fd) (C_is_ascending : CalF P w K mg base "is_ascending" 1 ["things"] spAsc)
    (z_isinstance : mg "isinstance" = none) (z_tuple : mg "tuple" = none) (z_all : mg "all" = none) :
    FnOk P w K mg base CX0 2 f fd ["thing", "columns"] spSome := by
  have nd := sc__are_some.nd
  refine F.ok sc__are_some (fun vs H Q E h => ?_) (fun cdv A up s H vs Q E hr h => ?_)
  · obtain ⟨a, c, zs, cs, rfl, _⟩ := h
    rfl
  · obtain ⟨a, c, zs, cs, rfl, ha, hc, hl, hi, hp, k⟩ := h
    refine ⟨_, (pss_one (ps_ret (pe_and (pe_callB call_isi (by rfl) z_isinstance (by decide +kernel) (pa_cons (pv 0) (pa_cons (pe_bltn (v := .ty "tuple") (by rfl) z_tuple PyProof.Rows.boot_tuple rfl) pa_nil))) (pe_and (pe_callB (cr_all rfl) (by rfl) z_all (by decide +kernel) (pa_cons (pe_lc (own := [("column", 2)]) (g := (gName 2)) (tt := tYes) (te := (tOp _ (tVar 2) (tVar 1))) (by rfl) nd (pi_tup (pv 0)) (blkOk_by (own := [("column", 2)]) (N := ["thing", "columns", "column"]) (sc := defScope s__are_some) (by decide +kernel)) (fun _ _ _ _ _ => by exact (pg_name (i := 2) nd rfl (Or.inl rfl))) (fun _ _ _ _ _ => by exact pts_nil) (fun _ _ _ _ _ => by exact (pe_cmpR (op_inK (K := K) rfl) (pv 2) (pv 1) (by rfl)))) pa_nil)) (pe_one (pe_cf C_is_ascending (hr.mono (by decide)) (pa_cons (pv 0) pa_nil))))))), ?_⟩
    walk_at "rr"
    refine isi_t (.base (.tup ha)) (b := true) (by decide +kernel) ?_
    walk_at "rr"
    walk_at "rr"
    walk_at "rr"
    refine ⟨_, rfl, ⟨_, SqT.of ha⟩, fun D hD => ?_⟩
    refine lc_same (walk_tup (xs := zs.map V.str)) (fun _ => .bl true) (fun _ => true) (by rw [List.length_map]; omega) hD (fun H2 s2 => SqT.of (s2 _ _ ha)) (fun k x H2 H3 hk s2 y Q1 R1 q1 _ => ?_) fun H2 s2 hD1 => ?_
    · obtain ⟨rfl, y⟩ := y
      have e : (zs.map V.str)[k]? = some x := y
      rw [List.getElem?_map] at e
      obtain ⟨z, hz, rfl⟩ := Option.map_eq_some_iff.mp e
      walk_at "rr"
      refine ⟨rfl, k_yes ?_⟩
      walk_at "rr"
      refine ⟨_, _, rfl, .inr (SqT.of (s2 _ _ hc)), rfl, flat_strs _, ?_⟩
      rw [if_neg (by decide), inV_str (hi z (List.mem_of_getElem? hz))]
      exact q1 rfl _ (Same.refl _)
    · rw [range_all] at hD1
      walk_at "rr"
      refine ⟨D, (List.range (zs.map V.str).length).map fun _ => true, rfl, SqL.of (by rw [hD1, List.map_map]; rfl), ?_⟩
      rw [all_true]
      walk_at "rr"
      exact ⟨a, zs, rfl, s2 _ _ ha, hl, hp, fun H3 s3 => k _ (s2.trans s3)⟩
/-- a table -/
structure T where
  nm : Str
  cs : List Str
  is : List Str
  ks : List Str
structure T.Ok (t : T) : Prop where
  nm : isNameB t.nm = true
  c1 : 1 ≤ t.cs.length
  c3 : t.cs.length ≤ 3
  cn : ∀ z ∈ t.cs, isNameB z = true
  cd : t.cs.Nodup
  ii : ∀ z ∈ t.is, z ∈ t.cs
  ia : t.is.Pairwise sLt
  ki : ∀ z ∈ t.ks, z ∈ t.cs
  ka : t.ks.Pairwise sLt
def TAt (H : Hp) (a : Addr) (t : T) : Prop := ∃ c i k : Addr, H a = some (.tup [.str t.nm, .ref c, .ref i, .ref k]) ∧ H c = some (.tup (t.cs.map V.str)) ∧ H i = some (.tup (t.is.map V.str)) ∧ H k = some (.tup (t.ks.map V.str))
theorem TAt.same {H H' : Hp} {a : Addr} {t : T} (h : TAt H a t) (s : Same H H') : TAt H' a t := by
  obtain ⟨c, i, k, h1, h2, h3, h4⟩ := h
  exact ⟨c, i, k, s _ _ h1, s _ _ h2, s _ _ h3, s _ _ h4⟩
theorem asc_nodup {zs : List Str} (h : zs.Pairwise sLt) : zs.Nodup := h.imp fun {a b} l e => by
  subst e
  exact absurd l (List.lt_irrefl _)
theorem some_len {zs cs : List Str} (h : zs.Pairwise sLt) (i : ∀ z ∈ zs, z ∈ cs) : zs.length ≤ cs.length := nodup_len (asc_nodup h) i
def spTable : Sp := fun vs H Q _ => ∃ (a : Addr) (t : T), vs = [.ref a] ∧ TAt H a t ∧ t.Ok ∧ ∀ H', Same H H' → Q (.bl true) H'
theorem ok_table {f : Addr} {fd : FuncData} (F : Fun K "is_table" "is_table" s_is_table f fd) (C_is_name : CalF P w K mg base "is_name" 1 ["thing"] spName) (C_is_tuple : CalF P w K mg base "is_tuple" 1 ["thing", "size"] spTuple)
    (C__are_columns : CalF P w K mg base "_are_columns" 2 ["thing"] spCols) (C__are_some : CalF P w K mg base "_are_some" 2 ["thing", "columns"] spSome) :
    FnOk P w K mg base CX0 3 f fd ["thing"] spTable := by
  have nd := sc_is_table.nd
  refine F.ok sc_is_table (fun vs H Q E h => ?_) (fun cdv A up s H vs Q E hr h => ?_)
  · obtain ⟨a, t, rfl, _⟩ := h
    rfl
  · obtain ⟨a, t, rfl, ht, ok, k⟩ := h
    obtain ⟨c, i, u, h1, h2, h3, h4⟩ := ht
    refine ⟨_, (pss_cons (ps_if (pt_not (pt_val (pe_cf C_is_tuple (hr.mono (by decide)) (pa_cons (pv 0) (pa_cons pe_int pa_nil))))) (pss_one (ps_ret pe_bl)) pss_nil)
        (pss_cons (ps_asg (pv 0) (pg_tup rfl (pgs_cons (pg_name (i := 1) nd rfl (Or.inl rfl)) (pgs_cons (pg_name (i := 2) nd rfl (Or.inl rfl)) (pgs_cons (pg_name (i := 3) nd rfl (Or.inl rfl)) (pgs_cons (pg_name (i := 4) nd rfl (Or.inl rfl)) pgs_nil))))))
        (pss_one (ps_ret (pe_and (pe_cf C_is_name (hr.mono (by decide)) (pa_cons (pv 1) pa_nil)) (pe_and (pe_cf C__are_columns (hr.mono (by decide)) (pa_cons (pv 2) pa_nil)) (pe_and (pe_cf C__are_some (hr.mono (by decide)) (pa_cons (pv 3) (pa_cons (pv 2) pa_nil))) (pe_one (pe_cf C__are_some (hr.mono (by decide)) (pa_cons (pv 4) (pa_cons (pv 2) pa_nil))))))))))), ?_⟩
    walk_at "rr"
    refine ⟨a, _, rfl, h1, ?_⟩
    walk_at "rr"
    refine k_gTup (SqT.of h1) rfl ?_
    walk_at "rr"
    refine ⟨t.nm, rfl, ok.nm, fun H1 s1 => ?_⟩
    walk_at "rr"
    refine ⟨c, t.cs, rfl, s1 _ _ h2, ok.c1, ok.c3, ok.cn, ok.cd, fun H2 s2 => ?_⟩
    walk_at "rr"
    have q := some_len ok.ia ok.ii
    have q2 := some_len ok.ka ok.ki
    have := ok.c3
    refine ⟨i, c, t.is, t.cs, rfl, s2 _ _ (s1 _ _ h3), s2 _ _ (s1 _ _ h2), by omega, ok.ii, ok.ia, fun H3 s3 => ?_⟩
    walk_at "rr"
    refine ⟨u, c, t.ks, t.cs, rfl, s3 _ _ (s2 _ _ (s1 _ _ h4)), s3 _ _ (s2 _ _ (s1 _ _ h2)), by omega, ok.ki, ok.ka, fun H4 s4 => ?_⟩
    exact k _ (((s1.trans s2).trans s3).trans s4)
end
end K03

set_option Elab.async false
set_option maxRecDepth 100000
set_option maxHeartbeats 4000000
set_option linter.unusedVariables false
set_option linter.unusedSimpArgs false
namespace K03
open PySem PySem.Spec PyProof.Rows L2 Own
-- steps
local macro_rules | `(tactic| walk_at "lk") => `(tactic| first
  | assumption | exact upd_same
  | ((with_reducible refine' lk_new ?e (by assumption)); (case e => walk_at "lk"))
  | ((with_reducible refine' lk_ext (by assumption) ?e); (case e => walk_at "lk"))
  | ((with_reducible refine' lk_same (by assumption) ?e); (case e => walk_at "lk")))
local macro_rules | `(tactic| walk_at "sq") => `(tactic| first | assumption | exact SqL.of (by walk_at "lk") | exact SqT.of (by walk_at "lk"))
local macro_rules | `(tactic| walk_at "r1") => `(tactic| first
  | with_reducible refine k_seq ?_ | with_reducible refine k_asg ?_ | with_reducible refine k_ret ?_ | with_reducible refine k_drop ?_ | with_reducible refine k_next ?_ | with_reducible refine k_ifS ?_
  | ((with_reducible refine' k_var ?e ?_); (case e => exact rfl)) | with_reducible refine k_c ?_ | with_reducible refine k_op ?_ | with_reducible refine k_un ?_ | with_reducible refine k_test ?_ | with_reducible refine k_B ?_
  | with_reducible refine k_and ?_ | with_reducible refine k_or ?_ | with_reducible refine k_not ?_ | with_reducible refine k_andV ?_ | with_reducible refine k_orV ?_ | with_reducible refine k_notV ?_ | with_reducible refine k_if ?_
  | with_reducible refine k_nil ?_ | with_reducible refine k_cons ?_ | with_reducible refine k_tup ?_ | with_reducible refine k_lst ?_ | with_reducible refine k_call ?_ | with_reducible refine k_cb ?_ | with_reducible refine k_ck ?_
  | with_reducible refine k_par ?_ | with_reducible refine k_par1 ?_ | with_reducible refine k_tr ?_ | with_reducible refine k_rI0 ?_ | with_reducible refine k_rU ?_
  | with_reducible refine k_gN ?_ | with_reducible refine k_gS ?_ | with_reducible refine k_gNil ?_ | with_reducible refine k_gCons ?_ | with_reducible refine k_bm0 ?_ | with_reducible refine k_bm ?_
  | with_reducible refine k_for ?_ | with_reducible refine k_iL ?_ | with_reducible refine k_iT ?_ | with_reducible refine k_iR1 ?_ | ((with_reducible refine k_iR1i ?e ?_); (case e => first | decide | exact ⟨by omega, by omega⟩))
  | with_reducible refine k_max ?_ | with_reducible refine k_isB ?_ | with_reducible refine k_sl ?_ | with_reducible refine k_noP ?_ | with_reducible refine k_part ?_ | with_reducible refine k_partI ?_ | with_reducible refine k_revL ?_
  | ((with_reducible refine' k_ixqT ?e ?f ?_); (case e => walk_at "sq"); (case f => first | exact rfl | exact atI_head))
  | ((with_reducible refine' k_ixqL ?e ?f ?_); (case e => walk_at "sq"); (case f => first | exact rfl | exact atI_head))
  | ((with_reducible refine' k_lenL ?e ?_); (case e => walk_at "sq"))
  | ((with_reducible refine' k_lenT ?e ?_); (case e => walk_at "sq"))
  | ((with_reducible refine' k_ixL ?e ?f ?_); (case e => walk_at "sq"); (case f => first | exact rfl | exact atI_head))
  | ((with_reducible refine' k_ixT ?e ?f ?_); (case e => walk_at "sq"); (case f => first | exact rfl | exact atI_head))
  | ((with_reducible refine k_eq ?e ?_); (case e => exact rfl)) | ((with_reducible refine k_ne ?e ?_); (case e => exact rfl))
  | ((with_reducible refine k_rI ?e ?_); (case e => first | assumption | omega | decide | exact ⟨by omega, by omega⟩ | exact .inl ⟨by omega, by omega⟩ | exact .inr ⟨by omega, by omega⟩)))
local macro_rules | `(tactic| walk_at "rd") => `(tactic| repeat walk_at "r1")
local macro_rules | `(tactic| walk_at "r2") => `(tactic| first
  | walk_at "r1"
  | with_reducible refine k_ifTt ?_ | with_reducible refine k_ifFf ?_ | with_reducible refine k_ifNt ?_ | with_reducible refine k_ifNf ?_
  | with_reducible refine k_makeR ?_ | with_reducible refine k_tJ ?_ | with_reducible refine k_tJc ?_ | with_reducible refine k_tJn ?_ | with_reducible refine k_fmt ?_ | with_reducible refine k_lc ?_ | with_reducible refine k_din ?_ | with_reducible refine k_fld ?_ | with_reducible refine k_dget ?_
  | with_reducible refine k_dput ?_
  | with_reducible refine k_isNv ?_
  | with_reducible refine k_notNv ?_
  | with_reducible refine k_str ?_
  | with_reducible refine k_enumT ?_
  | with_reducible refine k_zipA ?_
  | with_reducible refine k_chain ?_
  | ((with_reducible refine' k_dgS ?e dkv_cells ?_); (case e => walk_at "lk"))
  | ((with_reducible refine' k_dgS ?e dkv_mixed ?_); (case e => walk_at "lk"))
  | ((with_reducible refine' k_dgS ?e dkv_turn ?_); (case e => walk_at "lk")))
local macro_rules | `(tactic| walk_at "rr") => `(tactic| repeat walk_at "r2")
-- steps end
theorem ltc : ∀ a b : List Nat, ltCps a b = decide (a < b)
  | [], [] => by simp [ltCps]
  | [], b :: bs => by simp [ltCps]
  | a :: as, [] => by simp [ltCps]
  | a :: as, b :: bs => by
    have ih := ltc as bs
    simp only [ltCps, ih]
    by_cases h : a < b
    · simp [h, List.cons_lt_cons_iff]
    · by_cases e : a = b
      · subst e
        simp [List.cons_lt_cons_iff]
      · simp [h, e, List.cons_lt_cons_iff]
theorem ris : ∀ (r : List Str) (x : Str), risingS x r = true → (x :: r).Pairwise fun a b => ¬ b.cps.toList < a.cps.toList := by
  intro r
  induction r with
  | nil => intro x _; exact List.pairwise_singleton _ _
  | cons y r ih =>
    intro x h
    unfold risingS at h
    rw [Bool.and_eq_true, Bool.not_eq_true'] at h
    have h1 : ¬ y.cps.toList < x.cps.toList := of_decide_eq_false ((ltc _ _).symm.trans h.1)
    have h2 := ih y h.2
    refine List.pairwise_cons.mpr ⟨fun z hz => ?_, h2⟩
    rcases List.mem_cons.mp hz with rfl | hz
    · exact h1
    · have h3 := (List.pairwise_cons.mp h2).1 z hz
      rw [List.not_lt] at *
      exact List.le_trans h1 h3
theorem ris2 {ys : List Str} (h : sortedS ys = true) (nd : ys.Nodup) : ys.Pairwise sLt := by
  have h1 : ys.Pairwise fun a b => ¬ b.cps.toList < a.cps.toList := by
    match ys, h with
    | [], _ => exact List.Pairwise.nil
    | y :: r, h => exact ris r y h
  refine (h1.and nd).imp fun {a b} z => ?_
  rcases Decidable.em (a.cps.toList < b.cps.toList) with q | q
  · exact q
  · rw [List.not_lt] at q
    have z1 := z.1
    rw [List.not_lt] at z1
    have e := List.le_antisymm z1 q
    refine absurd ?_ z.2
    obtain ⟨a⟩ := a
    obtain ⟨b⟩ := b
    exact congrArg Str.mk (Array.toList_inj.mp e)

/-! ### a schema -/
theorem nt : ¬ (("_named" : Str) = "_tables") := by decide +kernel
def flds (d t : Addr) : List (Str × V) := putF "_tables" (.ref t) (putF "_named" (.ref d) [])
theorem flds_tables (d t : Addr) : (flds d t).lookup ("_tables" : Str) = some (.ref t) := by
  unfold flds
  rw [lookup_putF, if_pos rfl]
theorem flds_named (d t : Addr) : (flds d t).lookup ("_named" : Str) = some (.ref d) := by
  unfold flds
  rw [lookup_putF, if_neg nt, lookup_putF, if_pos rfl]
theorem flds_no (d t : Addr) {m : Str} (h1 : ¬ m = "_tables") (h2 : ¬ m = "_named") : (flds d t).lookup m = none := by
  unfold flds
  rw [lookup_putF, if_neg h1, lookup_putF, if_neg h2]
  rfl
/-- a table and where it lies -/
abbrev AT := Addr × T
def kvsOf (ts : List AT) : List (Key × V) := ts.map fun x => ((Sum.inr x.2.nm : Key), V.ref x.1)
def refsOf (ts : List AT) : List V := ts.map fun x => V.ref x.1
def namesOf (ts : List AT) : List Str := ts.map fun x => x.2.nm
theorem kvs_has {ts : List AT} {n : Str} {o : Option V} (h : valV (kvsOf ts) (Sum.inr n) = o) : o.isSome = decide (n ∈ namesOf ts) := by
  subst h
  induction ts with
  | nil => rfl
  | cons x ts ih =>
    by_cases e : x.2.nm = n
    · have h1 : valV (kvsOf (x :: ts)) (Sum.inr n) = some (V.ref x.1) := by
        show valV ((Sum.inr x.2.nm, V.ref x.1) :: kvsOf ts) (Sum.inr n) = _
        rw [e]
        exact kv_hit
      rw [h1]
      exact (decide_eq_true (by rw [← e]; exact List.mem_cons_self)).symm
    · have h1 : valV (kvsOf (x :: ts)) (Sum.inr n) = valV (kvsOf ts) (Sum.inr n) := kv_miss (sne e)
      rw [h1, ih]
      have : n ∈ namesOf (x :: ts) ↔ n ∈ namesOf ts := by
        show n ∈ x.2.nm :: namesOf ts ↔ _
        rw [List.mem_cons]
        exact ⟨fun z => z.resolve_left fun q => e q.symm, .inr⟩
      exact (decide_eq_decide.mpr this).symm
theorem kvs_get {ts : List AT} (nd : (namesOf ts).Nodup) {x : AT} (h : x ∈ ts) : valV (kvsOf ts) (Sum.inr x.2.nm) = some (V.ref x.1) := by
  induction ts with
  | nil => cases h
  | cons y ts ih =>
    have nd2 := List.nodup_cons.mp (show (y.2.nm :: namesOf ts).Nodup from nd)
    rcases List.mem_cons.mp h with rfl | h
    · exact kv_hit
    · have ne : ¬ y.2.nm = x.2.nm := fun e => nd2.1 (e ▸ List.mem_map.mpr ⟨x, h, rfl⟩)
      exact (kv_miss (sne ne)).trans (ih nd2.2 h)
theorem kvs_put {ts : List AT} {x : AT} (n : ¬ x.2.nm ∈ namesOf ts) : putK (kvsOf ts) (Sum.inr x.2.nm) (V.ref x.1) = kvsOf (ts ++ [x]) := by
  have h : valV (kvsOf ts) (Sum.inr x.2.nm) = none := by
    have := kvs_has (ts := ts) (n := x.2.nm) rfl
    rw [decide_eq_false n] at this
    exact Option.not_isSome_iff_eq_none.mp (by rw [this]; decide)
  rw [putK_new _ h]
  unfold kvsOf
  rw [List.map_append]
  rfl
theorem nd_take {ts : List AT} (nd : (namesOf ts).Nodup) {i : Nat} {x : AT} (h : ts[i]? = some x) : ¬ x.2.nm ∈ namesOf (ts.take i) := fun z => by
  have e : namesOf ts = namesOf (ts.take i) ++ namesOf (ts.drop i) := by
    unfold namesOf
    rw [← List.map_append, List.take_append_drop]
  rw [e] at nd
  have i2 : x.2.nm ∈ namesOf (ts.drop i) := List.mem_map.mpr ⟨x, List.mem_of_getElem? (i := 0) (by rw [List.getElem?_drop]; exact h), rfl⟩
  exact (List.nodup_append.mp nd).2.2 _ z _ i2 rfl
structure SchAt (C : Addr) (H : Hp) (p : Addr) (ts zs : List AT) : Prop where
  perm : zs.Perm ts
  asc : (namesOf zs).Pairwise sLt
  ok : ∀ x ∈ ts, TAt H x.1 x.2 ∧ x.2.Ok
  nd : (namesOf ts).Nodup
  len : ts.length ≤ 5
  ex : ∃ dx d t, H p = some (.ins C dx (flds d t)) ∧ H d = some (.dK (kvsOf ts)) ∧ H t = some (.tup (refsOf zs))
structure Txt (K : PySem.W.Frag) (C : Addr) : Prop where
  cl : Cls K C
  nN : NoAttr K C "_named"
  nT : NoAttr K C "_tables"
section
variable {P : Program} {w : World} {K : PySem.W.Frag} {mg : Str → Option Value} {base : Heap} {C : Addr}
abbrev s_Schema___init__ : Stmt := inClass (top 14) 0
theorem sc_Schema___init__ : FnScope ["self", "tables", "named", "at", "table", "name"] ["self", "tables"] (defScope s_Schema___init__) :=
  ⟨rfl, rfl, rfl, by decide +kernel, rfl, by decide +kernel, by decide +kernel⟩
def spInit (C : Addr) : Sp := fun vs H Q _ => ∃ (p dx u : Addr) (ts : List AT), vs = [.ref p, .ref u] ∧ H p = some (.ins C dx []) ∧ H u = some (.tup (refsOf ts)) ∧ (∀ x ∈ ts, TAt H x.1 x.2 ∧ x.2.Ok) ∧ (namesOf ts).Nodup ∧ ts.length ≤ 5 ∧
  ∀ H' zs, SchAt C H' p ts zs → (∀ a o, a ≠ p → H a = some o → H' a = some o) → Q .non H'
theorem ok_init {f : Addr} {fd : FuncData} (F : Fun K "__init__" "Schema.__init__" s_Schema___init__ f fd) (T : Txt K C) (C_is_table : CalF P w K mg base "is_table" 3 ["thing"] spTable)
    (z_enumerate : mg "enumerate" = none) (z_sorted : mg "sorted" = none) (z_tuple : mg "tuple" = none)
    (hb : ∀ (kV doc pm : Value) (an : Option Addr) (cdv ct : Value) (us rest : List Value), us.length = 1 →
      bindArgs (PySem.W.fnOf "__init__" "Schema.__init__" (defArgs s_Schema___init__) (defBody s_Schema___init__) (defScope s_Schema___init__) .none kV doc pm an cdv ct) ⟨us ++ rest, []⟩ = (newTuple rest >>= fun t => pure ((["self"] : List Str).zip us ++ [(("tables" : Str), t)]))) :
    FnR P w K mg base CX0 4 f (fun vs H Q E => ∃ ws rest, vs = ws ++ rest ∧ ws.length = 1 ∧ rest.length ≤ sizeLine ∧ ∀ p, H p = Option.none → spInit C (ws ++ [V.ref p]) (upd H p (.tup rest)) Q E) := by
  obtain ⟨oc, od, kV, doc, pm, an, cdv, ct, osl, rfl, lk, hcd⟩ := F.ex
  refine StX.fn_star (ps := ["self"]) (pv := "tables") lk hcd sc_Schema___init__ StX.cxUp_none (fun us rest hl => hb kV doc pm an cdv ct us rest hl) (fun A up s H vs Q E hr h => ?_)
  obtain ⟨p, dx, u, ts, rfl, hp, hU, ht, hn, hl, k⟩ := h
  have nd := sc_Schema___init__.nd
  have hu := hu_of hr
  refine ⟨_, PSs.nox (pss_cons (ps_set (i := 2) nd rfl (Or.inr rfl) pe_dnewK)
        (pss_cons (ps_for PassesOwn.never rfl (pi_enumT (by rfl) z_enumerate (pa_cons (pv 1) pa_nil)) (pg_tup rfl (pgs_cons (pg_name (i := 3) nd rfl (Or.inl rfl)) (pgs_cons (pg_name (i := 4) nd rfl (Or.inl rfl)) pgs_nil))) (pss_cons (ps_if (PW.pt (pw_or (pt_not (pt_val (pe_cf C_is_table (hr.mono (by decide)) (pa_cons (pv 4) pa_nil)))) (pw_or1 (pt_cmp (pc_din hu (pe_ix ix_tup (pv 4) pe_int (fun _ _ => rfl)) (pv 2)))))) (pss_one ps_nope) pss_nil)
        (pss_one (ps_dput hu (pv 2) (pe_ix ix_tup (pv 4) pe_int (fun _ _ => rfl)) (pv 4) rfl))))
        (pss_cons (ps_fld (pv 0) (pv 2) rfl)
        (pss_one (ps_fld (pv 0) (pe_callTy call_tuple_of (by rfl) z_tuple (by decide +kernel) (pa_cons (pe_lc (own := [("name", 5)]) (g := (gName 5)) (tt := tYes) (te := (tDGet (tVar 2) (tVar 5))) (by rfl) nd (pi_list (pe_callB (L2.call_sortedD rfl) (by rfl) z_sorted (by decide +kernel) (pa_cons (pv 2) pa_nil))) (blkOk_by (own := [("name", 5)]) (N := ["self", "tables", "named", "at", "table", "name"]) (sc := defScope s_Schema___init__) (by decide +kernel)) (fun _ _ _ _ _ => by exact (pg_name (i := 5) nd rfl (Or.inl rfl))) (fun _ _ _ _ _ => by exact pts_nil) (fun _ _ _ _ _ => by exact (pe_dget hu (pv 2) (pv 5) (fun _ _ => rfl)))) pa_nil)) rfl))))), ?_⟩
  walk_at "rr"
  refine k_dnewK fun d hd => ?_
  walk_at "rr"
  let Pv : Nat → L2.St → Hp → Prop := fun i σ H' => ∃ o1 o2, σ = [some (.ref p), some (.ref u), some (.ref d), o1, o2, none] ∧ Same H H' ∧ H' d = some (.dK (kvsOf (ts.take i)))
  have lr : (refsOf ts).length = ts.length := List.length_map ..
  refine ⟨u, refsOf ts, rfl, SqT.of (Same.upd hd _ _ hU), for_it (walk_enumT (xs := refsOf ts)) Pv ⟨none, none, rfl, Same.upd hd, upd_same⟩ (fun i σ H' _ h => ?_) (fun i x σ H' H'' hi h y => ?_) (fun σ H' h => ?_)⟩
  · obtain ⟨_, _, _, s1, _⟩ := h
    exact SqT.of (s1 _ _ hU)
  · obtain ⟨o1, o2, rfl, s1, hk⟩ := h
    obtain ⟨t1, x1, x2, rfl, ht1, rfl, e1, e2⟩ := y
    have e1 : V.int i = x1 := Option.some.inj e1
    have e2 : (refsOf ts)[i]? = some x2 := e2
    unfold refsOf at e2
    rw [List.getElem?_map] at e2
    obtain ⟨x, hx, rfl⟩ := Option.map_eq_some_iff.mp e2
    subst e1
    refine k_gTup (SqT.of upd_same) rfl ?_
    walk_at "rr"
    obtain ⟨tx, ok⟩ := ht x (List.mem_of_getElem? hx)
    refine ⟨x.1, x.2, rfl, (tx.same s1).same (Same.upd ht1), ok, fun H2 s2 => ?_⟩
    walk_at "rr"
    refine k_ixT (SqT.of (s2 _ _ (Same.upd ht1 _ _ (s1 _ _ tx.choose_spec.choose_spec.choose_spec.1)))) rfl ?_
    walk_at "rr"
    have hk2 := s2 _ _ (Same.upd ht1 _ _ hk)
    have fresh := nd_take hn hx
    refine ⟨d, _, rfl, DGet.k (k := Sum.inr x.2.nm) hk2, _, rfl, ?_⟩
    rw [kvs_has rfl, decide_eq_false fresh]
    walk_at "rr"
    have hi2 : i < ts.length := (List.getElem?_eq_some_iff.mp hx).1
    refine k_ixT (SqT.of (s2 _ _ (Same.upd ht1 _ _ (s1 _ _ tx.choose_spec.choose_spec.choose_spec.1)))) rfl ?_
    refine k_dpS hk2 (by unfold kvsOf; rw [List.length_map, List.length_take]; omega) ?_
    rw [kvs_put fresh]
    refine ⟨_, _, rfl, ?_, ?_⟩
    · exact same_off ((s1.trans (Same.upd ht1)).trans s2) hd
    · rw [upd_same, List.take_add_one, hx]
      rfl
  · obtain ⟨o1, o2, rfl, s1, hk⟩ := h
    rw [lr, List.take_length] at hk
    walk_at "rr"
    have hp1 := s1 _ _ hp
    have npd : p ≠ d := ne_of_none hp hd
    refine ⟨p, C, dx, [], rfl, hp1, T.cl, T.nN, by decide, ?_⟩
    walk_at "rr"
    walk_at "rr"
    let H3 := upd H' p (.ins C dx (putF "_named" (.ref d) []))
    have hk3 : H3 d = some (.dK (kvsOf ts)) := (upd_ne npd.symm).trans hk
    refine ⟨d, kvsOf ts, namesOf ts, rfl, .inl hk3, by unfold kvsOf namesOf; rw [List.map_map, List.map_map]; rfl, by unfold namesOf; rw [List.length_map]; omega, fun ys q hp2 hs hq => ?_⟩
    obtain ⟨zs, pz, rfl⟩ := perm_map hp2 ts rfl
    have lz := pz.length_eq
    refine ⟨_, rfl, ⟨_, SqL.of upd_same⟩, fun D hD => ?_⟩
    refine lc_same (walk_list (xs := (zs.map fun x => x.2.nm).map V.str)) (fun i => match zs[i]? with | some x => .ref x.1 | none => .non) (fun _ => true) (by rw [List.length_map, List.length_map]; omega) hD (fun H5 s5 => SqL.of (s5 _ _ upd_same)) (fun k x H5 H6 hk5 s5 y Q1 R1 q1 _ => ?_) fun H5 s5 hD1 => ?_
    · obtain ⟨rfl, y⟩ := y
      have e : ((zs.map fun x => x.2.nm).map V.str)[k]? = some x := y
      rw [List.map_map, List.getElem?_map] at e
      obtain ⟨z, hz, rfl⟩ := Option.map_eq_some_iff.mp e
      rw [hz] at q1
      walk_at "rr"
      refine ⟨rfl, k_yes ?_⟩
      walk_at "rr"
      refine k_dgS (s5 _ _ (Same.upd hq _ _ hk3)) (kvs_get hn (pz.mem_iff.mp (List.mem_of_getElem? hz))) ?_
      exact q1 rfl _ (Same.refl _)
    · rw [range_all, List.length_map, List.length_map, range_get zs _ (fun x => V.ref x.1) (fun k x e => by rw [e])] at hD1
      walk_at "rr"
      refine ⟨D, refsOf zs, rfl, .inl ⟨SqL.of hD1, fun l hl2 => ?_⟩⟩
      walk_at "rr"
      have hp3 : H3 p = some (.ins C dx (putF "_named" (.ref d) [])) := upd_same
      have g1 : ∀ a o, a ≠ p → H a = some o → (upd H5 l (.tup (refsOf zs))) a = some o := fun a o na e => Same.upd hl2 _ _ (s5 _ _ (Same.upd hq _ _ ((upd_ne na).trans (s1 _ _ e))))
      have hp5 : (upd H5 l (.tup (refsOf zs))) p = some (.ins C dx (putF "_named" (.ref d) [])) := Same.upd hl2 _ _ (s5 _ _ (Same.upd hq _ _ hp3))
      have hd5 : (upd H5 l (.tup (refsOf zs))) d = some (.dK (kvsOf ts)) := Same.upd hl2 _ _ (s5 _ _ (Same.upd hq _ _ hk3))
      refine ⟨p, C, dx, _, rfl, hp5, T.cl, T.nT, (by show 1 < 1000; decide), ?_⟩
      have npl : p ≠ l := fun z => by
        rw [← z] at hl2
        have := s5 _ _ (Same.upd hq _ _ hp3)
        rw [this] at hl2
        cases hl2
      have hl5 : (upd H5 l (.tup (refsOf zs))) l = some (.tup (refsOf zs)) := upd_same
      generalize upd H5 l (.tup (refsOf zs)) = H6 at g1 hp5 hd5 hl5 ⊢
      have nat : ∀ {a : Addr} {o : HO}, H a = some o → (∀ C dx fs, o ≠ .ins C dx fs) → a ≠ p := fun e n z => by
        rw [z, hp] at e
        exact n _ _ _ (Option.some.inj e).symm
      refine k _ zs ⟨pz, ris2 hs (by
          have : (zs.map fun x => x.2.nm).Perm (namesOf ts) := pz.map _
          exact this.nodup_iff.mpr hn), fun x hx => ⟨?_, (ht x hx).2⟩, hn, hl, dx, d, l, upd_same, (upd_ne npd.symm).trans hd5, (upd_ne npl.symm).trans hl5⟩ fun a o na e => (upd_ne na).trans (g1 a o na e)
      obtain ⟨c, i, kk, h1, h2, h3, h4⟩ := (ht x hx).1
      have t : ∀ {a : Addr} {xs : List V}, H a = some (.tup xs) → (upd H6 p (.ins C dx (flds d l))) a = some (.tup xs) := fun {a xs} e => (upd_ne (nat e fun _ _ _ z => by cases z)).trans (g1 _ _ (nat e fun _ _ _ z => by cases z) e)
      exact ⟨c, i, kk, t h1, t h2, t h3, t h4⟩
end
end K03

set_option Elab.async false
set_option maxRecDepth 100000
set_option maxHeartbeats 4000000
set_option linter.unusedVariables false
namespace K03
open PySem PySem.Spec PyProof.Rows L2 Own
-- steps
local macro_rules | `(tactic| walk_at "lk") => `(tactic| first
  | assumption | exact upd_same
  | ((with_reducible refine' lk_new ?e (by assumption)); (case e => walk_at "lk"))
  | ((with_reducible refine' lk_ext (by assumption) ?e); (case e => walk_at "lk"))
  | ((with_reducible refine' lk_same (by assumption) ?e); (case e => walk_at "lk")))
local macro_rules | `(tactic| walk_at "sq") => `(tactic| first | assumption | exact SqL.of (by walk_at "lk") | exact SqT.of (by walk_at "lk"))
local macro_rules | `(tactic| walk_at "r1") => `(tactic| first
  | with_reducible refine k_seq ?_ | with_reducible refine k_asg ?_ | with_reducible refine k_ret ?_ | with_reducible refine k_drop ?_ | with_reducible refine k_next ?_ | with_reducible refine k_ifS ?_
  | ((with_reducible refine' k_var ?e ?_); (case e => exact rfl)) | with_reducible refine k_c ?_ | with_reducible refine k_op ?_ | with_reducible refine k_un ?_ | with_reducible refine k_test ?_ | with_reducible refine k_B ?_
  | with_reducible refine k_and ?_ | with_reducible refine k_or ?_ | with_reducible refine k_not ?_ | with_reducible refine k_andV ?_ | with_reducible refine k_orV ?_ | with_reducible refine k_notV ?_ | with_reducible refine k_if ?_
  | with_reducible refine k_nil ?_ | with_reducible refine k_cons ?_ | with_reducible refine k_tup ?_ | with_reducible refine k_lst ?_ | with_reducible refine k_call ?_ | with_reducible refine k_cb ?_ | with_reducible refine k_ck ?_
  | with_reducible refine k_par ?_ | with_reducible refine k_par1 ?_ | with_reducible refine k_tr ?_ | with_reducible refine k_rI0 ?_ | with_reducible refine k_rU ?_
  | with_reducible refine k_gN ?_ | with_reducible refine k_gS ?_ | with_reducible refine k_gNil ?_ | with_reducible refine k_gCons ?_ | with_reducible refine k_bm0 ?_ | with_reducible refine k_bm ?_
  | with_reducible refine k_for ?_ | with_reducible refine k_iL ?_ | with_reducible refine k_iT ?_ | with_reducible refine k_iR1 ?_ | ((with_reducible refine k_iR1i ?e ?_); (case e => first | decide | exact ⟨by omega, by omega⟩))
  | with_reducible refine k_max ?_ | with_reducible refine k_isB ?_ | with_reducible refine k_sl ?_ | with_reducible refine k_noP ?_ | with_reducible refine k_part ?_ | with_reducible refine k_partI ?_ | with_reducible refine k_revL ?_
  | ((with_reducible refine' k_ixqT ?e ?f ?_); (case e => walk_at "sq"); (case f => first | exact rfl | exact atI_head))
  | ((with_reducible refine' k_ixqL ?e ?f ?_); (case e => walk_at "sq"); (case f => first | exact rfl | exact atI_head))
  | ((with_reducible refine' k_lenL ?e ?_); (case e => walk_at "sq"))
  | ((with_reducible refine' k_lenT ?e ?_); (case e => walk_at "sq"))
  | ((with_reducible refine' k_ixL ?e ?f ?_); (case e => walk_at "sq"); (case f => first | exact rfl | exact atI_head))
  | ((with_reducible refine' k_ixT ?e ?f ?_); (case e => walk_at "sq"); (case f => first | exact rfl | exact atI_head))
  | ((with_reducible refine k_eq ?e ?_); (case e => exact rfl)) | ((with_reducible refine k_ne ?e ?_); (case e => exact rfl))
  | ((with_reducible refine k_rI ?e ?_); (case e => first | assumption | omega | decide | exact ⟨by omega, by omega⟩ | exact .inl ⟨by omega, by omega⟩ | exact .inr ⟨by omega, by omega⟩)))
local macro_rules | `(tactic| walk_at "rd") => `(tactic| repeat walk_at "r1")
local macro_rules | `(tactic| walk_at "r2") => `(tactic| first
  | walk_at "r1"
  | with_reducible refine k_ifTt ?_ | with_reducible refine k_ifFf ?_ | with_reducible refine k_ifNt ?_ | with_reducible refine k_ifNf ?_
  | with_reducible refine k_makeR ?_ | with_reducible refine k_tJ ?_ | with_reducible refine k_tJc ?_ | with_reducible refine k_tJn ?_ | with_reducible refine k_fmt ?_ | with_reducible refine k_lc ?_ | with_reducible refine k_din ?_ | with_reducible refine k_fld ?_ | with_reducible refine k_dget ?_
  | with_reducible refine k_dput ?_
  | with_reducible refine k_isNv ?_
  | with_reducible refine k_notNv ?_
  | with_reducible refine k_str ?_
  | with_reducible refine k_enumT ?_
  | with_reducible refine k_zipA ?_
  | with_reducible refine k_chain ?_
  | ((with_reducible refine' k_dgS ?e dkv_cells ?_); (case e => walk_at "lk"))
  | ((with_reducible refine' k_dgS ?e dkv_mixed ?_); (case e => walk_at "lk"))
  | ((with_reducible refine' k_dgS ?e dkv_turn ?_); (case e => walk_at "lk")))
local macro_rules | `(tactic| walk_at "rr") => `(tactic| repeat walk_at "r2")
-- steps end
/-! ### tables as data -/
instance : DecidableEq T := fun a b => by
  cases a
  cases b
  rw [T.mk.injEq]
  exact inferInstance
def strsD (zs : List Str) : PyData := .tuple (zs.map .str)
def T.data (t : T) : PyData := .tuple [.str t.nm, strsD t.cs, strsD t.is, strsD t.ks]
def tabsD (l : List T) : PyData := .tuple (l.map T.data)
theorem eqv_strs : ∀ zs ys : List Str, PyData.eqvAll (zs.map .str) (ys.map .str) = decide (zs = ys)
  | [], [] => by simp [PyData.eqvAll]
  | [], y :: ys => by simp [PyData.eqvAll]
  | z :: zs, [] => by simp [PyData.eqvAll]
  | z :: zs, y :: ys => by
    have ih := eqv_strs zs ys
    simp only [List.map_cons, PyData.eqvAll, ih, PyData.eqv]
    by_cases h : z = y <;> simp [h]
theorem eqv_strsD (zs ys : List Str) : PyData.eqv (strsD zs) (strsD ys) = decide (zs = ys) := by
  unfold strsD
  simp only [PyData.eqv]
  exact eqv_strs zs ys
theorem eqv_T (a b : T) : PyData.eqv a.data b.data = decide (a = b) := by
  obtain ⟨a1, a2, a3, a4⟩ := a
  obtain ⟨b1, b2, b3, b4⟩ := b
  unfold T.data
  simp only [PyData.eqv, PyData.eqvAll, eqv_strsD]
  by_cases h1 : a1 = b1 <;> by_cases h2 : a2 = b2 <;> by_cases h3 : a3 = b3 <;> by_cases h4 : a4 = b4 <;> simp [h1, h2, h3, h4]
theorem eqv_Ts : ∀ l m : List T, PyData.eqvAll (l.map T.data) (m.map T.data) = decide (l = m)
  | [], [] => by simp [PyData.eqvAll]
  | [], y :: ys => by simp [PyData.eqvAll]
  | z :: zs, [] => by simp [PyData.eqvAll]
  | z :: zs, y :: ys => by
    have ih := eqv_Ts zs ys
    simp only [List.map_cons, PyData.eqvAll, ih, eqv_T]
    by_cases h : z = y <;> simp [h]
theorem eqv_tabs (l m : List T) : PyData.eqv (tabsD l) (tabsD m) = decide (l = m) := by
  unfold tabsD
  simp only [PyData.eqv]
  exact eqv_Ts l m
theorem name_ok {z : Str} (h : isNameB z = true) : PyData.strOk z = true := by
  unfold PyData.strOk
  unfold isNameB at h
  rw [Bool.and_eq_true, Bool.and_eq_true] at h
  rw [← Array.all_toList]
  refine List.all_eq_true.mpr fun c hc => decide_eq_true ?_
  have := List.all_eq_true.mp h.2 c hc
  unfold isLet at this
  simp at this
  omega
theorem lay_strs : ∀ zs : List Str, (∀ z ∈ zs, isNameB z = true) → PyData.canLayAll0 (zs.map .str) = true
  | [], _ => by simp [PyData.canLayAll0]
  | z :: zs, h => by
    simp [PyData.canLayAll0, PyData.canLay0, lay_strs zs fun y hy => h y (List.mem_cons_of_mem _ hy)]
    exact name_ok (h z List.mem_cons_self)
theorem dep_strs : ∀ zs : List Str, PyData.depthAll (zs.map .str) ≤ 1
  | [] => by simp [PyData.depthAll]
  | z :: zs => by
    have := dep_strs zs
    simp [PyData.depthAll, PyData.depth]
    omega
theorem lay_T {t : T} (h : t.Ok) : t.data.canLay0 = true := by
  unfold T.data strsD
  simp [PyData.canLay0, PyData.canLayAll0, lay_strs t.cs h.cn, lay_strs t.is fun z hz => h.cn z (h.ii z hz), lay_strs t.ks fun z hz => h.cn z (h.ki z hz)]
  exact name_ok h.nm
theorem dep_T (t : T) : t.data.depth ≤ 4 := by
  have h1 := dep_strs t.cs
  have h2 := dep_strs t.is
  have h3 := dep_strs t.ks
  unfold T.data strsD
  simp [PyData.depth, PyData.depthAll]
  omega
theorem lay_Ts : ∀ l : List T, (∀ t ∈ l, t.Ok) → PyData.canLayAll0 (l.map T.data) = true
  | [], _ => by simp [PyData.canLayAll0]
  | z :: zs, h => by simp [PyData.canLayAll0, lay_T (h z List.mem_cons_self), lay_Ts zs fun y hy => h y (List.mem_cons_of_mem _ hy)]
theorem dep_Ts : ∀ l : List T, PyData.depthAll (l.map T.data) ≤ 4
  | [] => by simp [PyData.depthAll]
  | z :: zs => by
    have := dep_Ts zs
    have := dep_T z
    simp [PyData.depthAll]
    omega
theorem shaped_tabs {l : List T} (h : ∀ t ∈ l, t.Ok) : SeqAt.shaped (tabsD l) = true := by
  have := dep_Ts l
  unfold SeqAt.shaped tabsD
  simp [PyData.canLay0, lay_Ts l h, PyData.depth]
  omega
section
variable {K : PySem.W.Frag} {H : Hp}
theorem dpAll_strs : ∀ zs : List Str, DpAll K H (zs.map V.str) (zs.map .str)
  | [] => .nil
  | z :: zs => .cons (.str z) (dpAll_strs zs)
theorem TAt.dp {a : Addr} {t : T} (h : TAt H a t) : Dp K H (.ref a) t.data := by
  obtain ⟨c, i, k, h1, h2, h3, h4⟩ := h
  exact .tup (SqT.of h1) (.cons (.str _) (.cons (.tup (SqT.of h2) (dpAll_strs _)) (.cons (.tup (SqT.of h3) (dpAll_strs _)) (.cons (.tup (SqT.of h4) (dpAll_strs _)) .nil))))
theorem dpAll_T : ∀ {l : List AT}, (∀ x ∈ l, TAt H x.1 x.2) → DpAll K H (refsOf l) ((l.map (·.2)).map T.data)
  | [], _ => .nil
  | x :: l, h => .cons (h x List.mem_cons_self).dp (dpAll_T fun y hy => h y (List.mem_cons_of_mem _ hy))
theorem dp_tabs {a : Addr} {l : List AT} (ha : H a = some (.tup (refsOf l))) (h : ∀ x ∈ l, TAt H x.1 x.2) : Dp K H (.ref a) (tabsD (l.map (·.2))) := .tup (SqT.of ha) (dpAll_T h)
end
/-! ### what Schema tells -/
/-- no text -/
def Oth (C : Addr) (H : Hp) (y : V) : Prop := y = .non ∨ (∃ b, y = .bl b) ∨ (∃ i, y = .int i) ∨ (∃ p xs, y = .ref p ∧ H p = some (.lst xs)) ∨ (∃ p xs, y = .ref p ∧ H p = some (.tup xs)) ∨ ∃ p kvs, y = .ref p ∧ H p = some (.dK kvs)
theorem Oth.ty {C : Addr} {K : PySem.W.Frag} {H : Hp} {y : V} (h : Oth C H y) : ∃ A : String, TyX K H y (.type A) ∧ (A = "NoneType" ∨ A = "bool" ∨ A = "int" ∨ A = "list" ∨ A = "tuple" ∨ A = "dict") := by
  rcases h with rfl | ⟨b, rfl⟩ | ⟨i, rfl⟩ | ⟨p, xs, rfl, q⟩ | ⟨p, xs, rfl, q⟩ | ⟨p, kvs, rfl, q⟩
  · exact ⟨_, .base .non, .inl rfl⟩
  · exact ⟨_, .base (.bl b), .inr (.inl rfl)⟩
  · exact ⟨_, .base (.int i), .inr (.inr (.inl rfl))⟩
  · exact ⟨_, .base (.lst q), .inr (.inr (.inr (.inl rfl)))⟩
  · exact ⟨_, .base (.tup q), .inr (.inr (.inr (.inr (.inl rfl))))⟩
  · exact ⟨_, .base (.dK q), .inr (.inr (.inr (.inr (.inr rfl))))⟩
theorem Oth.same {C : Addr} {H H' : Hp} {y : V} (h : Oth C H y) (s : Same H H') : Oth C H' y := by
  rcases h with rfl | ⟨b, rfl⟩ | ⟨i, rfl⟩ | ⟨p, xs, rfl, q⟩ | ⟨p, xs, rfl, q⟩ | ⟨p, kvs, rfl, q⟩
  · exact .inl rfl
  · exact .inr (.inl ⟨b, rfl⟩)
  · exact .inr (.inr (.inl ⟨i, rfl⟩))
  · exact .inr (.inr (.inr (.inl ⟨p, xs, rfl, s _ _ q⟩)))
  · exact .inr (.inr (.inr (.inr (.inl ⟨p, xs, rfl, s _ _ q⟩))))
  · exact .inr (.inr (.inr (.inr (.inr ⟨p, kvs, rfl, s _ _ q⟩))))
theorem Oth.kind {C : Addr} {K : PySem.W.Frag} {H : Hp} {y : V} (h : Oth C H y) : Own.Kind K C H y := by
  rcases h with rfl | ⟨b, rfl⟩ | ⟨i, rfl⟩ | ⟨p, xs, rfl, q⟩ | ⟨p, xs, rfl, q⟩ | ⟨p, kvs, rfl, q⟩
  · exact .inl rfl
  · exact .inr (.inl ⟨b, rfl⟩)
  · exact .inr (.inr (.inl ⟨i, rfl⟩))
  · exact .inr (.inr (.inr (.inr (.inl ⟨p, xs, rfl, SqL.of q⟩))))
  · exact .inr (.inr (.inr (.inr (.inr (.inl ⟨p, xs, rfl, SqT.of q⟩)))))
  · exact .inr (.inr (.inr (.inr (.inr (.inr (.inl ⟨p, kvs, rfl, q⟩))))))
theorem Oth.noStr {C : Addr} {K : PySem.W.Frag} {H : Hp} {y : V} (h : Oth C H y) {Q : VK} (q : Q (.bl false) H) : rIsi K [y, .ty "str"] H Q := by
  obtain ⟨A, t, z⟩ := h.ty (K := K)
  rcases z with rfl | rfl | rfl | rfl | rfl | rfl <;> exact isi_t t (b := false) (by decide +kernel) q
section
variable {P : Program} {w : World} {K : PySem.W.Frag} {mg : Str → Option Value} {base : Heap} {C : Addr}
abbrev s_Schema_tables : Stmt := inClass (top 14) 1
theorem sc_Schema_tables : FnScope ["self"] ["self"] (defScope s_Schema_tables) :=
  ⟨rfl, rfl, rfl, by decide +kernel, rfl, by decide +kernel, by decide +kernel⟩
abbrev s_Schema___contains__ : Stmt := inClass (top 14) 6
theorem sc_Schema___contains__ : FnScope ["self", "x"] ["self", "x"] (defScope s_Schema___contains__) :=
  ⟨rfl, rfl, rfl, by decide +kernel, rfl, by decide +kernel, by decide +kernel⟩
abbrev s_Schema___len__ : Stmt := inClass (top 14) 7
theorem sc_Schema___len__ : FnScope ["self"] ["self"] (defScope s_Schema___len__) :=
  ⟨rfl, rfl, rfl, by decide +kernel, rfl, by decide +kernel, by decide +kernel⟩
abbrev s_Schema___eq__ : Stmt := inClass (top 14) 8
theorem sc_Schema___eq__ : FnScope ["self", "other"] ["self", "other"] (defScope s_Schema___eq__) :=
  ⟨rfl, rfl, rfl, by decide +kernel, rfl, by decide +kernel, by decide +kernel⟩
def spTables (C : Addr) : Sp := fun vs H Q _ => ∃ (p : Addr) (ts zs : List AT), vs = [.ref p] ∧ SchAt C H p ts zs ∧ ∀ t, H t = some (.tup (refsOf zs)) → Q (.ref t) H
theorem ok_tables {f : Addr} {fd : FuncData} (F : Fun K "tables" "Schema.tables" s_Schema_tables f fd) (T : Txt K C) : FnOk P w K mg base CX0 1 f fd ["self"] (spTables C) := by
  refine F.ok sc_Schema_tables (fun vs H Q E h => ?_) (fun cdv A up s H vs Q E hr h => ?_)
  · obtain ⟨p, ts, zs, rfl, _⟩ := h
    rfl
  · obtain ⟨p, ts, zs, rfl, S, k⟩ := h
    obtain ⟨dx, d, t, h1, h2, h3⟩ := S.ex
    refine ⟨_, (pss_one (ps_ret (pe_fld (pv 0) rfl))), ?_⟩
    walk_at "rr"
    exact ⟨_, rfl, p, C, dx, _, _, rfl, h1, T.cl, T.nT, flds_tables _ _, k t h3⟩
def spLen (C : Addr) : Sp := fun vs H Q _ => ∃ (p : Addr) (ts zs : List AT), vs = [.ref p] ∧ SchAt C H p ts zs ∧ Q (.int ts.length) H
theorem ok_len {f : Addr} {fd : FuncData} (F : Fun K "__len__" "Schema.__len__" s_Schema___len__ f fd) (T : Txt K C) (z_len : mg "len" = none) : FnOk P w K mg base CX0 1 f fd ["self"] (spLen C) := by
  refine F.ok sc_Schema___len__ (fun vs H Q E h => ?_) (fun cdv A up s H vs Q E hr h => ?_)
  · obtain ⟨p, ts, zs, rfl, _⟩ := h
    rfl
  · obtain ⟨p, ts, zs, rfl, S, k⟩ := h
    obtain ⟨dx, d, t, h1, h2, h3⟩ := S.ex
    refine ⟨_, (pss_one (ps_ret (pe_callB (c_lenK (K := K) rfl) (by rfl) z_len (by decide +kernel) (pa_cons (pe_fld (pv 0) rfl) pa_nil)))), ?_⟩
    walk_at "rr"
    refine ⟨_, rfl, p, C, dx, _, _, rfl, h1, T.cl, T.nT, flds_tables _ _, ?_⟩
    walk_at "rr"
    unfold refsOf
    rw [List.length_map, S.perm.length_eq]
    exact k
def spIn (C : Addr) : Sp := fun vs H Q _ => ∃ (p : Addr) (ts zs : List AT) (y : V), vs = [.ref p, y] ∧ SchAt C H p ts zs ∧ ((∃ z, y = .str z ∧ Q (.bl (decide (z ∈ namesOf ts))) H) ∨ (Oth C H y ∧ Q (.bl false) H))
theorem ok_in {f : Addr} {fd : FuncData} (F : Fun K "__contains__" "Schema.__contains__" s_Schema___contains__ f fd) (T : Txt K C) (z_isinstance : mg "isinstance" = none) (z_str : mg "str" = none) : FnOk P w K mg base CX0 1 f fd ["self", "x"] (spIn C) := by
  refine F.ok sc_Schema___contains__ (fun vs H Q E h => ?_) (fun cdv A up s H vs Q E hr h => ?_)
  · obtain ⟨p, ts, zs, y, rfl, _⟩ := h
    rfl
  · obtain ⟨p, ts, zs, y, rfl, S, k⟩ := h
    obtain ⟨dx, d, t, h1, h2, h3⟩ := S.ex
    have hu := hu_of hr
    refine ⟨_, (pss_one (ps_ret (pe_and (pe_callB call_isi (by rfl) z_isinstance (by decide +kernel) (pa_cons (pv 1) (pa_cons (pe_bltn (v := .ty "str") (by rfl) z_str PyProof.Rows.boot_str rfl) pa_nil))) (pe_one (pe_cmp (pc_din hu (pv 1) (pe_fld (pv 0) rfl))))))), ?_⟩
    walk_at "rr"
    rcases k with ⟨z, rfl, k⟩ | ⟨o, k⟩
    · refine isi_t (.base (.str z)) (b := true) (by decide +kernel) ?_
      walk_at "rr"
      refine ⟨_, rfl, p, C, dx, _, _, rfl, h1, T.cl, T.nN, flds_named _ _, _, _, rfl, DGet.k (k := Sum.inr z) h2, ?_⟩
      rw [kvs_has rfl]
      exact k
    · refine o.noStr ?_
      walk_at "rr"
      exact k
structure ClsT (K : PySem.W.Frag) (C : Addr) : Prop where
  c1 : PySem.W.findIn K (.ref C) "__class__" = some (some (.builtin "object.__class__"))
  c2 : PySem.W.specialIn K (.builtin "object.__class__") "__get__" = some (some (.builtin "getset_descriptor.__get__"))
  c3 : PySem.W.takesIn K (.builtin "object.__class__") = some true
  c4 : PySem.W.mroIn K C (.type "object") = some true
  self : PySem.W.kitOne K (.ref C) (.ref C) = some true
  non : PySem.W.kitOne K (.type "NoneType") (.ref C) = some false
  bl : PySem.W.kitOne K (.type "bool") (.ref C) = some false
  int : PySem.W.kitOne K (.type "int") (.ref C) = some false
  str : PySem.W.kitOne K (.type "str") (.ref C) = some false
  lst : PySem.W.kitOne K (.type "list") (.ref C) = some false
  tup : PySem.W.kitOne K (.type "tuple") (.ref C) = some false
  dct : PySem.W.kitOne K (.type "dict") (.ref C) = some false
def spEq (C : Addr) : Sp := fun vs H Q _ => ∃ (p : Addr) (ts zs : List AT) (y : V), vs = [.ref p, y] ∧ SchAt C H p ts zs ∧ (((Oth C H y ∨ ∃ z, y = .str z) ∧ Q (.bl false) H) ∨ ∃ q ts' zs', y = .ref q ∧ SchAt C H q ts' zs' ∧ Q (.bl (decide (zs.map (·.2) = zs'.map (·.2)))) H)
theorem ok_eq {f : Addr} {fd : FuncData} (F : Fun K "__eq__" "Schema.__eq__" s_Schema___eq__ f fd) (T : Txt K C) (Z : ClsT K C) (z_isinstance : mg "isinstance" = none) (g_Schema : mg "Schema" = some (.ref C)) : FnOk P w K mg base CX0 1 f fd ["self", "other"] (spEq C) := by
  refine F.ok sc_Schema___eq__ (fun vs H Q E h => ?_) (fun cdv A up s H vs Q E hr h => ?_)
  · obtain ⟨p, ts, zs, y, rfl, _⟩ := h
    rfl
  · obtain ⟨p, ts, zs, y, rfl, S, k⟩ := h
    obtain ⟨dx, d, t, h1, h2, h3⟩ := S.ex
    refine ⟨_, (pss_one (ps_ret (pe_and (pe_callB call_isi (by rfl) z_isinstance (by decide +kernel) (pa_cons (pv 1) (pa_cons (pe_glob (v := .ref C) rfl g_Schema rfl) pa_nil))) (pe_one (pe_cmpR (op_eqD hr.units) (pe_fld (pv 0) rfl) (pe_fld (pv 1) rfl) (nomark _)))))), ?_⟩
    walk_at "rr"
    have isC : ∀ {A : String} {b : Bool} {Q : VK}, TyX K H y (.type A) → PySem.W.kitOne K (.type A) (.ref C) = some b → Q (.bl b) H → rIsi K [y, .ref C] H Q := fun t e q => ⟨_, _, _, _, _, rfl, .own _, t, e, q⟩
    rcases k with ⟨o, k⟩ | ⟨q, ts', zs', rfl, S', k⟩
    · have no : ∀ {A : String}, TyX K H y (.type A) → PySem.W.kitOne K (.type A) (.ref C) = some false → _ := fun t e => isC t e (Q := fun x H1 => ∃ c, x = V.bl c ∧ if c = true then tOp (rEqD K) (tFld K (tVar 0) "_tables") (tFld K (tVar 1) "_tables") (start ["self", "other"] [V.ref p, y]) H1 Q else Q (V.bl false) H1) ⟨_, rfl, k_ifFf k⟩
      rcases o with o | ⟨z, rfl⟩
      · obtain ⟨A, t, z⟩ := o.ty (K := K)
        rcases z with rfl | rfl | rfl | rfl | rfl | rfl
        · exact no t Z.non
        · exact no t Z.bl
        · exact no t Z.int
        · exact no t Z.lst
        · exact no t Z.tup
        · exact no t Z.dct
      · exact no (.base (.str z)) Z.str
    · obtain ⟨dx', d', t', h1', h2', h3'⟩ := S'.ex
      refine ⟨_, _, _, _, true, rfl, .own C, .base (.ins h1' T.cl Z.c1 Z.c2 Z.c3 Z.c4), Z.self, ?_⟩
      walk_at "rr"
      refine ⟨_, rfl, p, C, dx, _, _, rfl, h1, T.cl, T.nT, flds_tables _ _, ?_⟩
      refine ⟨_, rfl, q, C, dx', _, _, rfl, h1', T.cl, T.nT, flds_tables _ _, ?_⟩
      have o1 : ∀ x ∈ zs, TAt H x.1 x.2 ∧ x.2.Ok := fun x hx => S.ok x (S.perm.mem_iff.mp hx)
      have o2 : ∀ x ∈ zs', TAt H x.1 x.2 ∧ x.2.Ok := fun x hx => S'.ok x (S'.perm.mem_iff.mp hx)
      refine ⟨_, _, dp_tabs h3 fun x hx => (o1 x hx).1, dp_tabs h3' fun x hx => (o2 x hx).1, shaped_tabs fun t ht => ?_, shaped_tabs fun t ht => ?_, ?_⟩
      · obtain ⟨x, hx, rfl⟩ := List.mem_map.mp ht
        exact (o1 x hx).2
      · obtain ⟨x, hx, rfl⟩ := List.mem_map.mp ht
        exact (o2 x hx).2
      · rw [eqv_tabs]
        exact k
end
end K03

set_option Elab.async false
set_option maxRecDepth 100000
set_option maxHeartbeats 4000000
set_option linter.unusedVariables false
namespace K03
open PySem PySem.Spec PyProof.Rows L2 Own
-- steps
local macro_rules | `(tactic| walk_at "lk") => `(tactic| first
  | assumption | exact upd_same
  | ((with_reducible refine' lk_new ?e (by assumption)); (case e => walk_at "lk"))
  | ((with_reducible refine' lk_ext (by assumption) ?e); (case e => walk_at "lk"))
  | ((with_reducible refine' lk_same (by assumption) ?e); (case e => walk_at "lk")))
local macro_rules | `(tactic| walk_at "sq") => `(tactic| first | assumption | exact SqL.of (by walk_at "lk") | exact SqT.of (by walk_at "lk"))
local macro_rules | `(tactic| walk_at "r1") => `(tactic| first
  | with_reducible refine k_seq ?_ | with_reducible refine k_asg ?_ | with_reducible refine k_ret ?_ | with_reducible refine k_drop ?_ | with_reducible refine k_next ?_ | with_reducible refine k_ifS ?_
  | ((with_reducible refine' k_var ?e ?_); (case e => exact rfl)) | with_reducible refine k_c ?_ | with_reducible refine k_op ?_ | with_reducible refine k_un ?_ | with_reducible refine k_test ?_ | with_reducible refine k_B ?_
  | with_reducible refine k_and ?_ | with_reducible refine k_or ?_ | with_reducible refine k_not ?_ | with_reducible refine k_andV ?_ | with_reducible refine k_orV ?_ | with_reducible refine k_notV ?_ | with_reducible refine k_if ?_
  | with_reducible refine k_nil ?_ | with_reducible refine k_cons ?_ | with_reducible refine k_tup ?_ | with_reducible refine k_lst ?_ | with_reducible refine k_call ?_ | with_reducible refine k_cb ?_ | with_reducible refine k_ck ?_
  | with_reducible refine k_par ?_ | with_reducible refine k_par1 ?_ | with_reducible refine k_tr ?_ | with_reducible refine k_rI0 ?_ | with_reducible refine k_rU ?_
  | with_reducible refine k_gN ?_ | with_reducible refine k_gS ?_ | with_reducible refine k_gNil ?_ | with_reducible refine k_gCons ?_ | with_reducible refine k_bm0 ?_ | with_reducible refine k_bm ?_
  | with_reducible refine k_for ?_ | with_reducible refine k_iL ?_ | with_reducible refine k_iT ?_ | with_reducible refine k_iR1 ?_ | ((with_reducible refine k_iR1i ?e ?_); (case e => first | decide | exact ⟨by omega, by omega⟩))
  | with_reducible refine k_max ?_ | with_reducible refine k_isB ?_ | with_reducible refine k_sl ?_ | with_reducible refine k_noP ?_ | with_reducible refine k_part ?_ | with_reducible refine k_partI ?_ | with_reducible refine k_revL ?_
  | ((with_reducible refine' k_ixqT ?e ?f ?_); (case e => walk_at "sq"); (case f => first | exact rfl | exact atI_head))
  | ((with_reducible refine' k_ixqL ?e ?f ?_); (case e => walk_at "sq"); (case f => first | exact rfl | exact atI_head))
  | ((with_reducible refine' k_lenL ?e ?_); (case e => walk_at "sq"))
  | ((with_reducible refine' k_lenT ?e ?_); (case e => walk_at "sq"))
  | ((with_reducible refine' k_ixL ?e ?f ?_); (case e => walk_at "sq"); (case f => first | exact rfl | exact atI_head))
  | ((with_reducible refine' k_ixT ?e ?f ?_); (case e => walk_at "sq"); (case f => first | exact rfl | exact atI_head))
  | ((with_reducible refine k_eq ?e ?_); (case e => exact rfl)) | ((with_reducible refine k_ne ?e ?_); (case e => exact rfl))
  | ((with_reducible refine k_rI ?e ?_); (case e => first | assumption | omega | decide | exact ⟨by omega, by omega⟩ | exact .inl ⟨by omega, by omega⟩ | exact .inr ⟨by omega, by omega⟩)))
local macro_rules | `(tactic| walk_at "rd") => `(tactic| repeat walk_at "r1")
local macro_rules | `(tactic| walk_at "r2") => `(tactic| first
  | walk_at "r1"
  | with_reducible refine k_ifTt ?_ | with_reducible refine k_ifFf ?_ | with_reducible refine k_ifNt ?_ | with_reducible refine k_ifNf ?_
  | with_reducible refine k_makeR ?_ | with_reducible refine k_tJ ?_ | with_reducible refine k_tJc ?_ | with_reducible refine k_tJn ?_ | with_reducible refine k_fmt ?_ | with_reducible refine k_lc ?_ | with_reducible refine k_din ?_ | with_reducible refine k_fld ?_ | with_reducible refine k_dget ?_
  | with_reducible refine k_dput ?_
  | with_reducible refine k_isNv ?_
  | with_reducible refine k_notNv ?_
  | with_reducible refine k_str ?_
  | with_reducible refine k_enumT ?_
  | with_reducible refine k_zipA ?_
  | with_reducible refine k_chain ?_
  | ((with_reducible refine' k_dgS ?e dkv_cells ?_); (case e => walk_at "lk"))
  | ((with_reducible refine' k_dgS ?e dkv_mixed ?_); (case e => walk_at "lk"))
  | ((with_reducible refine' k_dgS ?e dkv_turn ?_); (case e => walk_at "lk")))
local macro_rules | `(tactic| walk_at "rr") => `(tactic| repeat walk_at "r2")
-- steps end
theorem join_len (a : Str) (ys : List Str) : (Txt.join a ys).length ≤ (ys.map (·.length)).sum + ys.length * a.length := by
  have h : ∀ (ps : List Str) (A : Array Nat), (ps.foldl (fun acc p => acc ++ a.cps ++ p.cps) A).size = A.size + (ps.map (·.length)).sum + ps.length * a.length := by
    intro ps
    induction ps with
    | nil => intro A; simp
    | cons p ps ih =>
      intro A
      rw [List.foldl_cons, ih]
      simp [Str.length, Nat.add_mul]
      omega
  match ys with
  | [] => show (Str.empty).length ≤ _; exact Nat.zero_le _
  | y :: ys =>
    show ((ys.foldl (fun acc p => acc ++ a.cps ++ p.cps) y.cps).size) ≤ _
    rw [h]
    simp [Str.length, Nat.add_mul]
theorem sum_le {zs : List Str} {b : Nat} (h : ∀ z ∈ zs, z.length ≤ b) : (zs.map (·.length)).sum ≤ zs.length * b := by
  induction zs with
  | nil => simp
  | cons z zs ih =>
    have := h z List.mem_cons_self
    have := ih fun y hy => h y (List.mem_cons_of_mem _ hy)
    simp [Nat.add_mul]
    omega
theorem name_len {z : Str} (h : isNameB z = true) : z.length ≤ 8 := by
  unfold isNameB at h
  simp only [Bool.and_eq_true, decide_eq_true_eq] at h
  exact h.1.2
section
variable {P : Program} {w : World} {K : PySem.W.Frag} {mg : Str → Option Value} {base : Heap} {C : Addr}
abbrev s__table_text : Stmt := top 18
theorem sc__table_text : FnScope ["table", "words", "name", "columns", "indexes", "keyed", "column"] ["table"] (defScope s__table_text) :=
  ⟨rfl, rfl, rfl, by decide +kernel, rfl, by decide +kernel, by decide +kernel⟩
abbrev s_Schema_text : Stmt := inClass (top 14) 2
theorem sc_Schema_text : FnScope ["self", "table"] ["self"] (defScope s_Schema_text) :=
  ⟨rfl, rfl, rfl, by decide +kernel, rfl, by decide +kernel, by decide +kernel⟩
def F1 (c : Str) : Str := (Str.empty ++ (Str.ofString " index ")) ++ c
def F2 (c : Str) : Str := (Str.empty ++ (Str.ofString " key ")) ++ c
/-- the line of a table -/
def ttOf (t : T) : Str := Str.empty ++ Str.ofString "table " ++ t.nm ++ Str.ofString " (" ++ Txt.join (Str.ofString ", ") t.cs ++ Str.ofString ")" ++ Txt.join (Str.ofString "") (t.is.map F1 ++ t.ks.map F2)
theorem tt_len {t : T} (ok : t.Ok) : (ttOf t).length ≤ 1000 := by
  have l1 := some_len ok.ia ok.ii
  have l2 := some_len ok.ka ok.ki
  have l3 := ok.c3
  have n1 : ∀ z ∈ t.is, z.length ≤ 8 := fun z hz => name_len (ok.cn z (ok.ii z hz))
  have n2 : ∀ z ∈ t.ks, z.length ≤ 8 := fun z hz => name_len (ok.cn z (ok.ki z hz))
  have n3 : ∀ z ∈ t.cs, z.length ≤ 8 := fun z hz => name_len (ok.cn z hz)
  have n4 := name_len ok.nm
  have e1 : (Str.empty ++ (Str.ofString " index ")).length = 7 := by decide +kernel
  have e2 : (Str.empty ++ (Str.ofString " key ")).length = 5 := by decide +kernel
  have q1 : (Str.empty ++ (Str.ofString "table ")).length = 6 := by decide +kernel
  have q2 : (Str.ofString " (").length = 2 := by decide +kernel
  have q3 : (Str.ofString ")").length = 1 := by decide +kernel
  have q4 : (Str.ofString ", ").length = 2 := by decide +kernel
  have q5 : (Str.ofString "").length = 0 := by decide +kernel
  have s3 := sum_le n3
  have j1 := join_len (Str.ofString ", ") t.cs
  have w1 : ∀ z ∈ t.is.map F1 ++ t.ks.map F2, z.length ≤ 15 := fun z hz => by
    rcases List.mem_append.mp hz with hz | hz
    · obtain ⟨y, hy, rfl⟩ := List.mem_map.mp hz
      have := n1 y hy
      show ((Str.empty ++ (Str.ofString " index ")) ++ y).length ≤ 15
      rw [Str.length_append, e1]
      omega
    · obtain ⟨y, hy, rfl⟩ := List.mem_map.mp hz
      have := n2 y hy
      show ((Str.empty ++ (Str.ofString " key ")) ++ y).length ≤ 15
      rw [Str.length_append, e2]
      omega
  have s4 := sum_le w1
  have j2 := join_len (Str.ofString "") (t.is.map F1 ++ t.ks.map F2)
  have l4 : (t.is.map F1 ++ t.ks.map F2).length ≤ 6 := by
    rw [List.length_append, List.length_map, List.length_map]
    omega
  rw [q4] at j1
  rw [q5] at j2
  show (Str.empty ++ Str.ofString "table " ++ t.nm ++ Str.ofString " (" ++ Txt.join (Str.ofString ", ") t.cs ++ Str.ofString ")" ++ Txt.join (Str.ofString "") (t.is.map F1 ++ t.ks.map F2)).length ≤ 1000
  rw [Str.length_append, Str.length_append, Str.length_append, Str.length_append, Str.length_append, q1, q2, q3]
  omega
def spTT : Sp := fun vs H Q _ => ∃ (a : Addr) (t : T), vs = [.ref a] ∧ TAt H a t ∧ t.Ok ∧ ∀ H', (ttOf t).length ≤ 1000 → Same H H' → Q (.str (ttOf t)) H'
theorem ok_tt {f : Addr} {fd : FuncData} (F : Fun K "_table_text" "_table_text" s__table_text f fd) : FnOk P w K mg base CX0 1 f fd ["table"] spTT := by
  have nd := sc__table_text.nd
  refine F.ok sc__table_text (fun vs H Q E h => ?_) (fun cdv A up s H vs Q E hr h => ?_)
  · obtain ⟨a, t, rfl, _⟩ := h
    rfl
  · obtain ⟨a, t, rfl, ht, ok, k⟩ := h
    obtain ⟨c, i, u, h1, h2, h3, h4⟩ := ht
    refine ⟨_, (pss_cons (ps_asg (pv 0) (pg_tup rfl (pgs_cons (pg_name (i := 2) nd rfl (Or.inl rfl)) (pgs_cons (pg_name (i := 3) nd rfl (Or.inl rfl)) (pgs_cons (pg_name (i := 4) nd rfl (Or.inl rfl)) (pgs_cons (pg_name (i := 5) nd rfl (Or.inl rfl)) pgs_nil))))))
        (pss_cons (ps_set (i := 1) nd rfl (Or.inl rfl) (pe_op op_cat (pe_lc (own := [("column", 6)]) (g := (gName 6)) (tt := tYes) (te := (tJ [(tC (.str " index ")), (tFmt (tVar 6))])) (by rfl) nd (pi_tup (pv 4)) (blkOk_by (own := [("column", 6)]) (N := ["table", "words", "name", "columns", "indexes", "keyed", "column"]) (sc := defScope s__table_text) (by decide +kernel)) (fun _ _ _ _ _ => by exact (pg_name (i := 6) nd rfl (Or.inl rfl))) (fun _ _ _ _ _ => by exact pts_nil) (fun _ _ _ _ _ => by exact (pe_tJ (PJ.cons pe_str (PJ.cons (pe_fmt (pv 6)) PJ.nil))))) (pe_lc (own := [("column", 6)]) (g := (gName 6)) (tt := tYes) (te := (tJ [(tC (.str " key ")), (tFmt (tVar 6))])) (by rfl) nd (pi_tup (pv 5)) (blkOk_by (own := [("column", 6)]) (N := ["table", "words", "name", "columns", "indexes", "keyed", "column"]) (sc := defScope s__table_text) (by decide +kernel)) (fun _ _ _ _ _ => by exact (pg_name (i := 6) nd rfl (Or.inl rfl))) (fun _ _ _ _ _ => by exact pts_nil) (fun _ _ _ _ _ => by exact (pe_tJ (PJ.cons pe_str (PJ.cons (pe_fmt (pv 6)) PJ.nil)))))))
        (pss_one (ps_ret (pe_tJ (PJ.cons pe_str (PJ.cons (pe_fmt (pv 2)) (PJ.cons pe_str (PJ.cons (pe_fmt (pe_join pe_str (pv 3))) (PJ.cons pe_str (PJ.cons (pe_fmt (pe_join pe_str (pv 1))) PJ.nil))))))))))), ?_⟩
    walk_at "rr"
    refine k_gTup (SqT.of h1) rfl ?_
    walk_at "rr"
    have l1 := some_len ok.ia ok.ii
    have l2 := some_len ok.ka ok.ki
    have l3 := ok.c3
    have n1 : ∀ z ∈ t.is, z.length ≤ 8 := fun z hz => name_len (ok.cn z (ok.ii z hz))
    have n2 : ∀ z ∈ t.ks, z.length ≤ 8 := fun z hz => name_len (ok.cn z (ok.ki z hz))
    have n3 : ∀ z ∈ t.cs, z.length ≤ 8 := fun z hz => name_len (ok.cn z hz)
    have n4 := name_len ok.nm
    have sz : ∀ n : Nat, n ≤ 1000 → n ≤ sizeLine := fun n h => Nat.le_trans h (by decide)
    have e1 : (Str.empty ++ (Str.ofString " index ")).length = 7 := by decide +kernel
    have e2 : (Str.empty ++ (Str.ofString " key ")).length = 5 := by decide +kernel
    refine ⟨_, rfl, ⟨_, SqT.of h3⟩, fun D hD => ?_⟩
    refine lc_same (walk_tup (xs := t.is.map V.str)) (fun i => match t.is[i]? with | some x => .str (F1 x) | none => .non) (fun _ => true) (by rw [List.length_map]; omega) hD (fun H5 s5 => SqT.of (s5 _ _ h3)) (fun k x H5 H6 hk5 s5 y Q1 R1 q1 _ => ?_) fun H5 s5 hD1 => ?_
    · obtain ⟨rfl, y⟩ := y
      have e : (t.is.map V.str)[k]? = some x := y
      rw [List.getElem?_map] at e
      obtain ⟨z, hz, rfl⟩ := Option.map_eq_some_iff.mp e
      rw [hz] at q1
      have := n1 z (List.mem_of_getElem? hz)
      walk_at "rr"
      refine ⟨rfl, k_yes ?_⟩
      walk_at "rr"
      refine k_txt (sz _ (by rw [e1]; decide)) ?_
      walk_at "rr"
      refine k_fmtS (z := z) (sz _ (by omega)) (sz _ (by rw [Str.length_append, e1]; omega)) ?_
      walk_at "rr"
      exact q1 rfl _ (Same.refl _)
    rw [range_all, List.length_map, range_get t.is _ (fun x => V.str (F1 x)) (fun k x e => by rw [e])] at hD1
    walk_at "rr"
    refine ⟨_, rfl, ⟨_, SqT.of (s5 _ _ h4)⟩, fun D2 hD2 => ?_⟩
    refine lc_same (walk_tup (xs := t.ks.map V.str)) (fun i => match t.ks[i]? with | some x => .str (F2 x) | none => .non) (fun _ => true) (by rw [List.length_map]; omega) hD2 (fun H6 s6 => SqT.of (s6 _ _ (s5 _ _ h4))) (fun k x H6 H7 hk5 s6 y Q1 R1 q1 _ => ?_) fun H6 s6 hD3 => ?_
    · obtain ⟨rfl, y⟩ := y
      have e : (t.ks.map V.str)[k]? = some x := y
      rw [List.getElem?_map] at e
      obtain ⟨z, hz, rfl⟩ := Option.map_eq_some_iff.mp e
      rw [hz] at q1
      have := n2 z (List.mem_of_getElem? hz)
      walk_at "rr"
      refine ⟨rfl, k_yes ?_⟩
      walk_at "rr"
      refine k_txt (sz _ (by rw [e2]; decide)) ?_
      walk_at "rr"
      refine k_fmtS (z := z) (sz _ (by omega)) (sz _ (by rw [Str.length_append, e2]; omega)) ?_
      walk_at "rr"
      exact q1 rfl _ (Same.refl _)
    rw [range_all, List.length_map, range_get t.ks _ (fun x => V.str (F2 x)) (fun k x e => by rw [e])] at hD3
    walk_at "rr"
    have hD4 := s6 _ _ hD1
    refine ⟨D, D2, _, _, rfl, rfl, hD4, hD3, sz _ (by rw [List.length_map, List.length_map]; omega), fun L hL => ?_⟩
    walk_at "rr"
    have q1 : (Str.empty ++ (Str.ofString "table ")).length = 6 := by decide +kernel
    have q2 : (Str.ofString " (").length = 2 := by decide +kernel
    have q3 : (Str.ofString ")").length = 1 := by decide +kernel
    have q4 : (Str.ofString ", ").length = 2 := by decide +kernel
    have q5 : (Str.ofString "").length = 0 := by decide +kernel
    have s3 := sum_le n3
    have j1 := join_len (Str.ofString ", ") t.cs
    have w1 : ∀ z ∈ t.is.map F1 ++ t.ks.map F2, z.length ≤ 15 := fun z hz => by
      rcases List.mem_append.mp hz with hz | hz
      · obtain ⟨y, hy, rfl⟩ := List.mem_map.mp hz
        have := n1 y hy
        show ((Str.empty ++ (Str.ofString " index ")) ++ y).length ≤ 15
        rw [Str.length_append, e1]
        omega
      · obtain ⟨y, hy, rfl⟩ := List.mem_map.mp hz
        have := n2 y hy
        show ((Str.empty ++ (Str.ofString " key ")) ++ y).length ≤ 15
        rw [Str.length_append, e2]
        omega
    have s4 := sum_le w1
    have j2 := join_len (Str.ofString "") (t.is.map F1 ++ t.ks.map F2)
    have l4 : (t.is.map F1 ++ t.ks.map F2).length ≤ 6 := by
      rw [List.length_append, List.length_map, List.length_map]
      omega
    rw [q4] at j1
    rw [q5] at j2
    refine k_txt (z := "table ") (sz _ (by rw [q1]; decide)) ?_
    walk_at "rr"
    refine k_fmtS (z := t.nm) (sz _ (by omega)) (sz _ (by rw [Str.length_append, q1]; omega)) ?_
    walk_at "rr"
    refine k_txt (z := " (") (sz _ (by rw [Str.length_append, Str.length_append, q1, q2]; omega)) ?_
    walk_at "rr"
    refine ⟨⟨_, rfl⟩, _, rfl, _, c, t.cs, rfl, rfl, .inr (SqT.of (Same.upd hL _ _ (s6 _ _ (s5 _ _ h2)))), by rw [q4]; omega, ?_⟩
    refine k_fmtS (z := Txt.join (Str.ofString ", ") t.cs) (sz _ (by omega)) (sz _ (by rw [Str.length_append, Str.length_append, Str.length_append, q1, q2]; omega)) ?_
    walk_at "rr"
    refine k_txt (z := ")") (sz _ (by rw [Str.length_append, Str.length_append, Str.length_append, Str.length_append, q1, q2, q3]; omega)) ?_
    walk_at "rr"
    refine ⟨⟨_, rfl⟩, _, rfl, _, L, t.is.map F1 ++ t.ks.map F2, rfl, rfl, .inl (SqL.of ?_), by rw [q5]; omega, ?_⟩
    · rw [upd_same, List.map_append, List.map_map, List.map_map]
      rfl
    refine k_fmtS (z := Txt.join (Str.ofString "") (t.is.map F1 ++ t.ks.map F2)) (sz _ (by omega)) (sz _ (by rw [Str.length_append, Str.length_append, Str.length_append, Str.length_append, Str.length_append, q1, q2, q3]; omega)) ?_
    walk_at "rr"
    refine k _ ?_ ((s5.trans s6).trans (Same.upd hL))
    show (Str.empty ++ Str.ofString "table " ++ t.nm ++ Str.ofString " (" ++ Txt.join (Str.ofString ", ") t.cs ++ Str.ofString ")" ++ Txt.join (Str.ofString "") (t.is.map F1 ++ t.ks.map F2)).length ≤ 1000
    rw [Str.length_append, Str.length_append, Str.length_append, Str.length_append, Str.length_append, q1, q2, q3]
    omega
def spText (C : Addr) : Sp := fun vs H Q _ => ∃ (p : Addr) (ts zs : List AT), vs = [.ref p] ∧ SchAt C H p ts zs ∧ ∀ H', Same H H' → Q (.str (Txt.join (Str.ofString "\n") (zs.map fun x => ttOf x.2))) H'
theorem ok_text {f : Addr} {fd : FuncData} (F : Fun K "text" "Schema.text" s_Schema_text f fd) (T : Txt K C) (C__table_text : CalF P w K mg base "_table_text" 1 ["table"] spTT) : FnOk P w K mg base CX0 2 f fd ["self"] (spText C) := by
  have nd := sc_Schema_text.nd
  refine F.ok sc_Schema_text (fun vs H Q E h => ?_) (fun cdv A up s H vs Q E hr h => ?_)
  · obtain ⟨p, ts, zs, rfl, _⟩ := h
    rfl
  · obtain ⟨p, ts, zs, rfl, S, k⟩ := h
    obtain ⟨dx, d, t, h1, h2, h3⟩ := S.ex
    refine ⟨_, (pss_one (ps_ret (pe_join pe_str (pe_lc (own := [("table", 1)]) (g := (gName 1)) (tt := tYes) (te := (tCall _ [] E0 (tCons (tVar 1) tNil))) (by rfl) nd (pi_tup (pe_fld (pv 0) rfl)) (blkOk_by (own := [("table", 1)]) (N := ["self", "table"]) (sc := defScope s_Schema_text) (by decide +kernel)) (fun _ _ _ _ _ => by exact (pg_name (i := 1) nd rfl (Or.inl rfl))) (fun _ _ _ _ _ => by exact pts_nil) (fun _ _ _ _ _ => by exact (pe_cf C__table_text (hr.mono (by decide)) (pa_cons (pv 1) pa_nil))))))), ?_⟩
    walk_at "rr"
    have lz := S.perm.length_eq
    have l4 := S.len
    refine ⟨⟨_, rfl⟩, ?_⟩
    walk_at "rr"
    refine ⟨_, rfl, p, C, dx, _, _, rfl, h1, T.cl, T.nT, flds_tables _ _, ?_⟩
    refine ⟨t, rfl, ⟨_, SqT.of h3⟩, fun D hD => ?_⟩
    refine lc_same (walk_tup (xs := refsOf zs)) (fun i => match zs[i]? with | some x => .str (ttOf x.2) | none => .non) (fun _ => true) (by unfold refsOf; rw [List.length_map]; omega) hD (fun H5 s5 => SqT.of (s5 _ _ h3)) (fun k x H5 H6 hk5 s5 y Q1 R1 q1 _ => ?_) fun H5 s5 hD1 => ?_
    · obtain ⟨rfl, y⟩ := y
      have e : (refsOf zs)[k]? = some x := y
      unfold refsOf at e
      rw [List.getElem?_map] at e
      obtain ⟨z, hz, rfl⟩ := Option.map_eq_some_iff.mp e
      rw [hz] at q1
      obtain ⟨tz, oz⟩ := S.ok z (S.perm.mem_iff.mp (List.mem_of_getElem? hz))
      walk_at "rr"
      refine ⟨rfl, k_yes ?_⟩
      walk_at "rr"
      exact ⟨z.1, z.2, rfl, tz.same s5, oz, fun H7 _ s7 => q1 rfl _ s7⟩
    · have e : ((List.range (refsOf zs).length).filter fun _ => true) = List.range zs.length := by
        rw [range_all]
        unfold refsOf
        rw [List.length_map]
      rw [e, range_get zs _ (fun x => V.str (ttOf x.2)) (fun k x e => by rw [e])] at hD1
      walk_at "rr"
      have sl := sum_le (zs := zs.map fun x => ttOf x.2) (b := 1000) fun z hz => by
        obtain ⟨x, hx, rfl⟩ := List.mem_map.mp hz
        exact tt_len (S.ok x (S.perm.mem_iff.mp hx)).2
      rw [List.length_map] at sl
      have q1 : (Str.ofString "\n").length = 1 := by decide +kernel
      refine ⟨_, D, zs.map fun x => ttOf x.2, rfl, rfl, .inl (SqL.of ?_), by rw [List.length_map, q1]; omega, ?_⟩
      · rw [hD1, List.map_map]
        rfl
      exact k _ s5
end
end K03

set_option Elab.async false
set_option maxRecDepth 100000
set_option maxHeartbeats 4000000
set_option linter.unusedVariables false
namespace K03
open PySem PySem.Spec PyProof.Rows L2 Own
-- steps
local macro_rules | `(tactic| walk_at "lk") => `(tactic| first
  | assumption | exact upd_same
  | ((with_reducible refine' lk_new ?e (by assumption)); (case e => walk_at "lk"))
  | ((with_reducible refine' lk_ext (by assumption) ?e); (case e => walk_at "lk"))
  | ((with_reducible refine' lk_same (by assumption) ?e); (case e => walk_at "lk")))
local macro_rules | `(tactic| walk_at "sq") => `(tactic| first | assumption | exact SqL.of (by walk_at "lk") | exact SqT.of (by walk_at "lk"))
local macro_rules | `(tactic| walk_at "r1") => `(tactic| first
  | with_reducible refine k_seq ?_ | with_reducible refine k_asg ?_ | with_reducible refine k_ret ?_ | with_reducible refine k_drop ?_ | with_reducible refine k_next ?_ | with_reducible refine k_ifS ?_
  | ((with_reducible refine' k_var ?e ?_); (case e => exact rfl)) | with_reducible refine k_c ?_ | with_reducible refine k_op ?_ | with_reducible refine k_un ?_ | with_reducible refine k_test ?_ | with_reducible refine k_B ?_
  | with_reducible refine k_and ?_ | with_reducible refine k_or ?_ | with_reducible refine k_not ?_ | with_reducible refine k_andV ?_ | with_reducible refine k_orV ?_ | with_reducible refine k_notV ?_ | with_reducible refine k_if ?_
  | with_reducible refine k_nil ?_ | with_reducible refine k_cons ?_ | with_reducible refine k_tup ?_ | with_reducible refine k_lst ?_ | with_reducible refine k_call ?_ | with_reducible refine k_cb ?_ | with_reducible refine k_ck ?_
  | with_reducible refine k_par ?_ | with_reducible refine k_par1 ?_ | with_reducible refine k_tr ?_ | with_reducible refine k_rI0 ?_ | with_reducible refine k_rU ?_
  | with_reducible refine k_gN ?_ | with_reducible refine k_gS ?_ | with_reducible refine k_gNil ?_ | with_reducible refine k_gCons ?_ | with_reducible refine k_bm0 ?_ | with_reducible refine k_bm ?_
  | with_reducible refine k_for ?_ | with_reducible refine k_iL ?_ | with_reducible refine k_iT ?_ | with_reducible refine k_iR1 ?_ | ((with_reducible refine k_iR1i ?e ?_); (case e => first | decide | exact ⟨by omega, by omega⟩))
  | with_reducible refine k_max ?_ | with_reducible refine k_isB ?_ | with_reducible refine k_sl ?_ | with_reducible refine k_noP ?_ | with_reducible refine k_part ?_ | with_reducible refine k_partI ?_ | with_reducible refine k_revL ?_
  | ((with_reducible refine' k_ixqT ?e ?f ?_); (case e => walk_at "sq"); (case f => first | exact rfl | exact atI_head))
  | ((with_reducible refine' k_ixqL ?e ?f ?_); (case e => walk_at "sq"); (case f => first | exact rfl | exact atI_head))
  | ((with_reducible refine' k_lenL ?e ?_); (case e => walk_at "sq"))
  | ((with_reducible refine' k_lenT ?e ?_); (case e => walk_at "sq"))
  | ((with_reducible refine' k_ixL ?e ?f ?_); (case e => walk_at "sq"); (case f => first | exact rfl | exact atI_head))
  | ((with_reducible refine' k_ixT ?e ?f ?_); (case e => walk_at "sq"); (case f => first | exact rfl | exact atI_head))
  | ((with_reducible refine k_eq ?e ?_); (case e => exact rfl)) | ((with_reducible refine k_ne ?e ?_); (case e => exact rfl))
  | ((with_reducible refine k_rI ?e ?_); (case e => first | assumption | omega | decide | exact ⟨by omega, by omega⟩ | exact .inl ⟨by omega, by omega⟩ | exact .inr ⟨by omega, by omega⟩)))
local macro_rules | `(tactic| walk_at "rd") => `(tactic| repeat walk_at "r1")
local macro_rules | `(tactic| walk_at "r2") => `(tactic| first
  | walk_at "r1"
  | with_reducible refine k_ifTt ?_ | with_reducible refine k_ifFf ?_ | with_reducible refine k_ifNt ?_ | with_reducible refine k_ifNf ?_
  | with_reducible refine k_makeR ?_ | with_reducible refine k_tJ ?_ | with_reducible refine k_tJc ?_ | with_reducible refine k_tJn ?_ | with_reducible refine k_fmt ?_ | with_reducible refine k_lc ?_ | with_reducible refine k_din ?_ | with_reducible refine k_fld ?_ | with_reducible refine k_dget ?_
  | with_reducible refine k_dput ?_
  | with_reducible refine k_isNv ?_
  | with_reducible refine k_notNv ?_
  | with_reducible refine k_str ?_
  | with_reducible refine k_enumT ?_
  | with_reducible refine k_zipA ?_
  | with_reducible refine k_chain ?_
  | ((with_reducible refine' k_dgS ?e dkv_cells ?_); (case e => walk_at "lk"))
  | ((with_reducible refine' k_dgS ?e dkv_mixed ?_); (case e => walk_at "lk"))
  | ((with_reducible refine' k_dgS ?e dkv_turn ?_); (case e => walk_at "lk")))
local macro_rules | `(tactic| walk_at "rr") => `(tactic| repeat walk_at "r2")
-- steps end
def turnedOf (f : Nat) : Str := cutS letters (some (f : Int)) none ++ cutS letters none (some (f : Int))
def signsOf (f : Nat) : List Str := (cutS (turnedOf f) none (some 8)).cps.toList.map fun c => ⟨#[c]⟩
def mulsOf (f : Nat) : List Str := (List.range 8).map fun (k : Nat) => Txt.mul ⟨#[(turnedOf f).cps.toList.getD (f % 3) 0]⟩ (1 + (k : Int))
def putsOf (f a : Nat) : List Str := (signsOf f).map fun s => (cutS (turnedOf f) (some 8) (some (8 + (a : Int))) ++ s) ++ cutS (turnedOf f) (some (9 + (a : Int))) (some 16)
def words : List Str := ["table", "index", "key", "next", "row", "from", "set", "none"]
def foundOf (way f a : Nat) : List Str := if way = 1 then mulsOf f else if way = 2 then putsOf f a else if way = 3 then words else signsOf f
def nodupB : List Str → Bool
  | [] => true
  | z :: zs => !(zs.any fun y => decide (y = z)) && nodupB zs
theorem nodupB_ok : ∀ {zs : List Str}, nodupB zs = true → zs.Nodup
  | [], _ => List.nodup_nil
  | z :: zs, h => by
    unfold nodupB at h
    rw [Bool.and_eq_true] at h
    refine List.nodup_cons.mpr ⟨fun m => ?_, nodupB_ok h.2⟩
    have h1 := h.1
    rw [Bool.not_eq_true', List.any_eq_false] at h1
    exact h1 z m (decide_eq_true rfl)
def eightB (zs : List Str) : Bool := decide (zs.length = 8) && zs.all isNameB && nodupB zs
theorem eight_m : ∀ f < 26, eightB (mulsOf f) = true := by decide +kernel
theorem eight_p : ∀ f < 26, ∀ a < 7, eightB (putsOf f a) = true := by decide +kernel
theorem eight_w : eightB words = true := by decide +kernel
theorem eight_s : ∀ f < 26, eightB (signsOf f) = true := by decide +kernel
theorem eight_all {way f a : Nat} (h1 : way < 4) (h2 : f < 26) (h3 : a < 7) : eightB (foundOf way f a) = true := by
  unfold foundOf
  split
  · exact eight_m f h2
  · split
    · exact eight_p f h2 a h3
    · split
      · exact eight_w
      · exact eight_s f h2
/-- eight names to take from -/
structure Eight (zs : List Str) : Prop where
  len : zs.length = 8
  nm : ∀ z ∈ zs, isNameB z = true
  nd : zs.Nodup
theorem turn_len : ∀ f < 26, (cutS letters (some ((f : Nat) : Int)) none).length + (cutS letters none (some ((f : Nat) : Int))).length ≤ 100 ∧ (turnedOf f).length = 26 ∧ (signsOf f).length = 8 := by decide +kernel
theorem eight_of {way f a : Nat} (h1 : way < 4) (h2 : f < 26) (h3 : a < 7) : Eight (foundOf way f a) := by
  have h := eight_all h1 h2 h3
  unfold eightB at h
  rw [Bool.and_eq_true, Bool.and_eq_true] at h
  exact ⟨of_decide_eq_true h.1.1, List.all_eq_true.mp h.1.2, nodupB_ok h.2⟩
end K03

set_option Elab.async false
set_option maxRecDepth 100000
set_option maxHeartbeats 4000000
set_option linter.unusedVariables false
namespace K03
open PySem PySem.Spec PyProof.Rows L2 Own
-- steps
local macro_rules | `(tactic| walk_at "lk") => `(tactic| first
  | assumption | exact upd_same
  | ((with_reducible refine' lk_new ?e (by assumption)); (case e => walk_at "lk"))
  | ((with_reducible refine' lk_ext (by assumption) ?e); (case e => walk_at "lk"))
  | ((with_reducible refine' lk_same (by assumption) ?e); (case e => walk_at "lk")))
local macro_rules | `(tactic| walk_at "sq") => `(tactic| first | assumption | exact SqL.of (by walk_at "lk") | exact SqT.of (by walk_at "lk"))
local macro_rules | `(tactic| walk_at "r1") => `(tactic| first
  | with_reducible refine k_seq ?_ | with_reducible refine k_asg ?_ | with_reducible refine k_ret ?_ | with_reducible refine k_drop ?_ | with_reducible refine k_next ?_ | with_reducible refine k_ifS ?_
  | ((with_reducible refine' k_var ?e ?_); (case e => exact rfl)) | with_reducible refine k_c ?_ | with_reducible refine k_op ?_ | with_reducible refine k_un ?_ | with_reducible refine k_test ?_ | with_reducible refine k_B ?_
  | with_reducible refine k_and ?_ | with_reducible refine k_or ?_ | with_reducible refine k_not ?_ | with_reducible refine k_andV ?_ | with_reducible refine k_orV ?_ | with_reducible refine k_notV ?_ | with_reducible refine k_if ?_
  | with_reducible refine k_nil ?_ | with_reducible refine k_cons ?_ | with_reducible refine k_tup ?_ | with_reducible refine k_lst ?_ | with_reducible refine k_call ?_ | with_reducible refine k_cb ?_ | with_reducible refine k_ck ?_
  | with_reducible refine k_par ?_ | with_reducible refine k_par1 ?_ | with_reducible refine k_tr ?_ | with_reducible refine k_rI0 ?_ | with_reducible refine k_rU ?_
  | with_reducible refine k_gN ?_ | with_reducible refine k_gS ?_ | with_reducible refine k_gNil ?_ | with_reducible refine k_gCons ?_ | with_reducible refine k_bm0 ?_ | with_reducible refine k_bm ?_
  | with_reducible refine k_for ?_ | with_reducible refine k_iL ?_ | with_reducible refine k_iT ?_ | with_reducible refine k_iR1 ?_ | ((with_reducible refine k_iR1i ?e ?_); (case e => first | decide | exact ⟨by omega, by omega⟩))
  | with_reducible refine k_max ?_ | with_reducible refine k_isB ?_ | with_reducible refine k_sl ?_ | with_reducible refine k_noP ?_ | with_reducible refine k_part ?_ | with_reducible refine k_partI ?_ | with_reducible refine k_revL ?_
  | ((with_reducible refine' k_ixqT ?e ?f ?_); (case e => walk_at "sq"); (case f => first | exact rfl | exact atI_head))
  | ((with_reducible refine' k_ixqL ?e ?f ?_); (case e => walk_at "sq"); (case f => first | exact rfl | exact atI_head))
  | ((with_reducible refine' k_lenL ?e ?_); (case e => walk_at "sq"))
  | ((with_reducible refine' k_lenT ?e ?_); (case e => walk_at "sq"))
  | ((with_reducible refine' k_ixL ?e ?f ?_); (case e => walk_at "sq"); (case f => first | exact rfl | exact atI_head))
  | ((with_reducible refine' k_ixT ?e ?f ?_); (case e => walk_at "sq"); (case f => first | exact rfl | exact atI_head))
  | ((with_reducible refine k_eq ?e ?_); (case e => exact rfl)) | ((with_reducible refine k_ne ?e ?_); (case e => exact rfl))
  | ((with_reducible refine k_rI ?e ?_); (case e => first | assumption | omega | decide | exact ⟨by omega, by omega⟩ | exact .inl ⟨by omega, by omega⟩ | exact .inr ⟨by omega, by omega⟩)))
local macro_rules | `(tactic| walk_at "rd") => `(tactic| repeat walk_at "r1")
local macro_rules | `(tactic| walk_at "r2") => `(tactic| first
  | walk_at "r1"
  | with_reducible refine k_ifTt ?_ | with_reducible refine k_ifFf ?_ | with_reducible refine k_ifNt ?_ | with_reducible refine k_ifNf ?_
  | with_reducible refine k_makeR ?_ | with_reducible refine k_tJ ?_ | with_reducible refine k_tJc ?_ | with_reducible refine k_tJn ?_ | with_reducible refine k_fmt ?_ | with_reducible refine k_lc ?_ | with_reducible refine k_din ?_ | with_reducible refine k_fld ?_ | with_reducible refine k_dget ?_
  | with_reducible refine k_dput ?_
  | with_reducible refine k_isNv ?_
  | with_reducible refine k_notNv ?_
  | with_reducible refine k_str ?_
  | with_reducible refine k_enumT ?_
  | with_reducible refine k_zipA ?_
  | with_reducible refine k_chain ?_
  | ((with_reducible refine' k_dgS ?e dkv_cells ?_); (case e => walk_at "lk"))
  | ((with_reducible refine' k_dgS ?e dkv_mixed ?_); (case e => walk_at "lk"))
  | ((with_reducible refine' k_dgS ?e dkv_turn ?_); (case e => walk_at "lk")))
local macro_rules | `(tactic| walk_at "rr") => `(tactic| repeat walk_at "r2")
-- steps end
section
variable {P : Program} {w : World} {K : PySem.W.Frag} {mg : Str → Option Value} {g0 : Heap}
abbrev s_names : Stmt := top 26
theorem sc_names : FnScope ["_law_deck_here", "_law_many", "_law_found", "_law_letters", "_law_way", "_law_first", "_law_turned", "_law_words", "_law_at", "_law_sign", "_law_k"] ["_law_deck_here", "_law_many"] (defScope s_names) :=
  ⟨rfl, rfl, rfl, by decide +kernel, rfl, by decide +kernel, by decide +kernel⟩
def StrsAt (H : Hp) (l : Addr) (zs : List Str) : Prop := H l = some (.lst (zs.map V.str))
theorem ext_free {M : Addr → Prop} {H H' : Hp} {a : Addr} (x : Ext M H H') (n : ¬ M a) (h : H' a = none) : H a = none := by
  match e : H a with
  | none => rfl
  | some o =>
    rw [x.2 a o n e] at h
    cases h
theorem er_map {α β : Type} (f : α → β) : ∀ (xs : List α) (r : Nat), (xs.map f).eraseIdx r = (xs.eraseIdx r).map f
  | [], _ => by simp
  | x :: xs, 0 => by simp
  | x :: xs, r + 1 => by simp [er_map f xs r]
theorem er_perm {α : Type} : ∀ (xs : List α) (r : Nat) (h : r < xs.length), (xs[r] :: xs.eraseIdx r).Perm xs
  | x :: xs, 0, _ => by simp
  | x :: xs, r + 1, h => by
    have h' : r < xs.length := by simpa using h
    have := er_perm xs r h'
    simp only [List.getElem_cons_succ, List.eraseIdx_cons_succ]
    exact (List.Perm.swap x xs[r] (xs.eraseIdx r)).trans (this.cons x)
def spNames : Sp := fun vs H Q _ => ∃ (d c : Addr) (b : Int) (many : Nat), vs = [.ref d, .int many] ∧ Deck d c b H ∧ b ≤ 1000000 ∧ many ≤ 4 ∧
  ∀ (l : Addr) (zs : List Str) (H' : Hp), zs.length = many → zs.Nodup → (∀ z ∈ zs, isNameB z = true) → Deck d c (b + 10) H' → Ext (Dk d c) H H' → StrsAt H' l zs → ¬ Dk d c l → H l = none → Q (.ref l) H'
theorem ok_names {f : Addr} {fd : FuncData} (F : Fun K "_law_names" "_law_names" s_names f fd) (z_range : mg "range" = none) (z_len : mg "len" = none)
    (C_draw : Cal P w K mg g0 "_law_draw" 1 ["_law_deck_here", "_law_many"] spDraw) : GOk P w K mg g0 CX0 2 f fd ["_law_deck_here", "_law_many"] spNames := by
  have nd := sc_names.nd
  refine okG F sc_names (fun vs H Q E h => ?_) (fun cdv A up s H vs Q E qt hr h => ?_)
  · obtain ⟨d, c, b, many, rfl, _⟩ := h
    rfl
  · obtain ⟨d, c, b, many, rfl, D, hb, hm, k⟩ := h
    refine ⟨_, (pss_cons (ps_asg (pe_tup (pa_cons pe_str (pa_cons (pe_c C_draw qt (hr.mono (by decide)) (pa_cons (pv 0) (pa_cons pe_int pa_nil))) (pa_cons (pe_c C_draw qt (hr.mono (by decide)) (pa_cons (pv 0) (pa_cons pe_int pa_nil))) pa_nil)))) (pg_tup rfl (pgs_cons (pg_name (i := 3) nd rfl (Or.inl rfl)) (pgs_cons (pg_name (i := 4) nd rfl (Or.inl rfl)) (pgs_cons (pg_name (i := 5) nd rfl (Or.inr rfl)) pgs_nil)))))
        (pss_cons (ps_asg (pe_tup (pa_cons (pe_op op_add_str (pe_slice sl_str (pv 3) (po_some (pv 5)) po_none) (pe_slice sl_str (pv 3) po_none (po_some (pv 5)))) (pa_cons (pe_lst (pa_cons pe_str (pa_cons pe_str (pa_cons pe_str (pa_cons pe_str (pa_cons pe_str (pa_cons pe_str (pa_cons pe_str (pa_cons pe_str pa_nil))))))))) pa_nil))) (pg_tup rfl (pgs_cons (pg_name (i := 6) nd rfl (Or.inr rfl)) (pgs_cons (pg_name (i := 7) nd rfl (Or.inl rfl)) pgs_nil))))
        (pss_cons (ps_set (i := 2) nd rfl (Or.inr rfl) (pe_lc (own := [("_law_sign", 9)]) (g := (gName 9)) (tt := tYes) (te := (tVar 9)) (by rfl) nd (pi_str (pe_slice sl_str (pv 6) po_none (po_some pe_int))) (blkOk_by (own := [("_law_sign", 9)]) (N := ["_law_deck_here", "_law_many", "_law_found", "_law_letters", "_law_way", "_law_first", "_law_turned", "_law_words", "_law_at", "_law_sign", "_law_k"]) (sc := defScope s_names) (by decide +kernel)) (fun _ _ _ _ _ => by exact (pg_name (i := 9) nd rfl (Or.inl rfl))) (fun _ _ _ _ _ => by exact pts_nil) (fun _ _ _ _ _ => by exact (pv 9))))
        (Evl.pss_cut (ps_if (pt_cmpR op_eq (pv 4) pe_int (nomark _)) (pss_one (ps_set (i := 2) nd rfl (Or.inr rfl) (pe_lc (own := [("_law_k", 10)]) (g := (gName 10)) (tt := tYes) (te := (tOp _ (tOp _ (tVar 6) (tOp _ (tVar 5) (tC (.int 3)))) (tOp _ (tC (.int 1)) (tVar 10)))) (by rfl) nd (pi_range1 (by rfl) z_range (pa_cons pe_int pa_nil)) (blkOk_by (own := [("_law_k", 10)]) (N := ["_law_deck_here", "_law_many", "_law_found", "_law_letters", "_law_way", "_law_first", "_law_turned", "_law_words", "_law_at", "_law_sign", "_law_k"]) (sc := defScope s_names) (by decide +kernel)) (fun _ _ _ _ _ => by exact (pg_name (i := 10) nd rfl (Or.inl rfl))) (fun _ _ _ _ _ => by exact pts_nil) (fun _ _ _ _ _ => by exact (pe_op op_repS (pe_ix ix_str (pv 6) (pe_op op_mod (pv 5) pe_int) (fun _ _ => rfl)) (pe_op op_add pe_int (pv 10))))))) pss_nil)
        (Evl.pss_cut (ps_if (pt_cmpR op_eq (pv 4) pe_int (nomark _)) (pss_cons (ps_set (i := 8) nd rfl (Or.inr rfl) (pe_c C_draw qt (hr.mono (by decide)) (pa_cons (pv 0) (pa_cons pe_int pa_nil))))
        (pss_one (ps_set (i := 2) nd rfl (Or.inr rfl) (pe_lc (own := [("_law_sign", 9)]) (g := (gName 9)) (tt := tYes) (te := (tOp _ (tOp _ (tSl _ (tVar 6) (tPart (tC (.int 8))) (tPart (tOp _ (tC (.int 8)) (tVar 8)))) (tVar 9)) (tSl _ (tVar 6) (tPart (tOp _ (tC (.int 9)) (tVar 8))) (tPart (tC (.int 16)))))) (by rfl) nd (pi_str (pe_slice sl_str (pv 6) po_none (po_some pe_int))) (blkOk_by (own := [("_law_sign", 9)]) (N := ["_law_deck_here", "_law_many", "_law_found", "_law_letters", "_law_way", "_law_first", "_law_turned", "_law_words", "_law_at", "_law_sign", "_law_k"]) (sc := defScope s_names) (by decide +kernel)) (fun _ _ _ _ _ => by exact (pg_name (i := 9) nd rfl (Or.inl rfl))) (fun _ _ _ _ _ => by exact pts_nil) (fun _ _ _ _ _ => by exact (pe_op op_add_str (pe_op op_add_str (pe_slice sl_str (pv 6) (po_some pe_int) (po_some (pe_op op_add pe_int (pv 8)))) (pv 9)) (pe_slice sl_str (pv 6) (po_some (pe_op op_add pe_int (pv 8))) (po_some pe_int)))))))) pss_nil)
        (Evl.pss_cut (ps_if (pt_cmpR op_eq (pv 4) pe_int (nomark _)) (pss_one (ps_set (i := 2) nd rfl (Or.inr rfl) (pv 7))) pss_nil)
        (pss_one (ps_ret (pe_lc (own := [("_law_k", 10)]) (g := (gName 10)) (tt := tYes) (te := (tBM _ "list" _ (tVar 2) (tCons (tCall _ [] E0 (tCons (tVar 0) (tCons (tCB _ (tCons (tVar 2) tNil)) tNil))) tNil))) (by rfl) nd (pi_range1 (by rfl) z_range (pa_cons (pv 1) pa_nil)) (blkOk_by (own := [("_law_k", 10)]) (N := ["_law_deck_here", "_law_many", "_law_found", "_law_letters", "_law_way", "_law_first", "_law_turned", "_law_words", "_law_at", "_law_sign", "_law_k"]) (sc := defScope s_names) (by decide +kernel)) (fun _ _ _ _ _ => by exact (pg_name (i := 10) nd rfl (Or.inl rfl))) (fun _ _ _ _ _ => by exact pts_nil) (fun _ _ _ _ _ => by exact (pe_bm PySem.F.plainAttrs_list PySem.F.slot_list_pop PySem.F.type_list_pop mt_popAt (pv 2) (pa_cons (pe_c C_draw qt (hr.mono (by decide)) (pa_cons (pv 0) (pa_cons (pe_callB (c_lenK (K := K) rfl) (by rfl) z_len (by decide +kernel) (pa_cons (pv 2) pa_nil)) pa_nil))) pa_nil)))))))))))), ?_⟩
    walk_at "rr"
    refine ⟨d, c, b, 4, rfl, D, by omega, by decide, by decide, fun way H1 w0 w1 D1 x1 => ?_⟩
    walk_at "rr"
    refine ⟨d, c, b + 1, 26, rfl, D1, by omega, by decide, by decide, fun fir H2 f0 f1 D2 x2 => ?_⟩
    obtain ⟨way, rfl⟩ := Int.eq_ofNat_of_zero_le w0
    obtain ⟨fir, rfl⟩ := Int.eq_ofNat_of_zero_le f0
    walk_at "rr"
    refine ⟨k_sz rfl, fun p hp => ?_⟩
    refine k_gTup (SqT.of upd_same) rfl ?_
    walk_at "rr"
    have D3 := D2.new (o := .tup [V.str letters, .int way, .int fir]) hp
    have x3 := (x1.trans x2).trans (ext_new (o := .tup [V.str letters, .int way, .int fir]) hp)
    generalize upd H2 p _ = H3 at D3 x3 ⊢
    have way4 : way < 4 := by omega
    have fir26 : fir < 26 := by omega
    obtain ⟨tl1, tl2, tl3⟩ := turn_len fir fir26
    have sz : ∀ n : Nat, n ≤ 1000 → n ≤ sizeLine := fun n h => Nat.le_trans h (by decide)
    refine ⟨letters, rfl, sz _ (by decide), ?_⟩
    walk_at "rr"
    refine ⟨letters, rfl, sz _ (by decide), _, _, rfl, rfl, sz _ (by omega), ?_⟩
    rw [show cutS letters (some (fir : Int)) none ++ cutS letters none (some (fir : Int)) = turnedOf fir from rfl]
    walk_at "rr"
    refine ⟨k_sz rfl, fun wl hwl => ?_⟩
    walk_at "rr"
    refine ⟨k_sz rfl, fun p2 hp2 => ?_⟩
    refine k_gTup (SqT.of upd_same) rfl ?_
    walk_at "rr"
    have D4 := (D3.new (o := .lst [.str "table", .str "index", .str "key", .str "next", .str "row", .str "from", .str "set", .str "none"]) hwl).new (o := .tup [.str (turnedOf fir), .ref wl]) hp2
    have x4 := (x3.trans (ext_new (o := .lst [.str "table", .str "index", .str "key", .str "next", .str "row", .str "from", .str "set", .str "none"]) hwl)).trans (ext_new (o := .tup [.str (turnedOf fir), .ref wl]) hp2)
    have hw4 : StrsAt (upd (upd H3 wl (.lst [.str "table", .str "index", .str "key", .str "next", .str "row", .str "from", .str "set", .str "none"])) p2 (.tup [.str (turnedOf fir), .ref wl])) wl words := lk_new upd_same hp2
    have hwD : ¬ Dk d c wl := D3.off hwl
    have wlH : H wl = none := ext_free x3 hwD hwl
    generalize upd (upd H3 wl _) p2 _ = H4 at D4 x4 hw4 ⊢
    refine ⟨turnedOf fir, rfl, sz _ (by omega), _, rfl, fun L0 hL0 => ?_⟩
    let Mid : Int → (List Str → Prop) → L2.St → Hp → Prop := fun n Pz σ' H' => ∃ L zs o8, σ' = [some (.ref d), some (.int many), some (.ref L), some (.str letters), some (.int way), some (.int fir), some (.str (turnedOf fir)), some (.ref wl), o8, none, none] ∧ Pz zs ∧ StrsAt H' L zs ∧ StrsAt H' wl words ∧
      Deck d c (b + n) H' ∧ Ext (Dk d c) H H' ∧ ¬ Dk d c L ∧ H L = none
    let P1 : List Str → Prop := fun zs => (way = 1 → zs = mulsOf fir) ∧ (way ≠ 1 → zs = signsOf fir)
    let P2 : List Str → Prop := fun zs => (way = 1 → zs = mulsOf fir) ∧ (way = 2 → ∃ a, a < 7 ∧ zs = putsOf fir a) ∧ (way ≠ 1 → way ≠ 2 → zs = signsOf fir)
    let P3 : List Str → Prop := fun zs => ∃ a, a < 7 ∧ zs = foundOf way fir a
    have sg : ∀ (k : Nat) (cc : Nat), (cutS (turnedOf fir) none (some 8)).cps[k]? = some cc → (signsOf fir)[k]? = some ⟨#[cc]⟩ := fun k cc e => by
      unfold signsOf
      rw [List.getElem?_map, Array.getElem?_toList, e]
      rfl
    have sgl : (cutS (turnedOf fir) none (some 8)).cps.size = 8 := by
      have := tl3
      unfold signsOf at this
      rw [List.length_map] at this
      exact this
    refine lc_same walk_str (fun i => match (signsOf fir)[i]? with | some x => .str x | none => .non) (fun _ => true) (by omega) hL0 (fun _ _ => trivial) (fun k x H5 H6 hk s1 y Q1 R1 q1 _ => ?_) fun H5 s5 hD1 => ?_
    · obtain ⟨rfl, cc, hc, rfl⟩ := y
      rw [sg k cc hc] at q1
      walk_at "rr"
      refine ⟨rfl, k_yes ?_⟩
      walk_at "rr"
      exact q1 rfl _ (Same.refl _)
    rw [range_all, sgl, ← tl3, range_get (signsOf fir) _ V.str (fun k x e => by rw [e])] at hD1
    walk_at "rr"
    have L0n : ¬ Dk d c L0 := D4.off hL0
    have L0f : H L0 = none := ext_free x4 L0n hL0
    refine ⟨Mid 4 P1, ?_, ?_⟩
    · walk_at "rr"
      refine k_iteD (fun w1' => ?_) fun w1' => ?_
      · walk_at "rr"
        refine ⟨8, rfl, by decide, by decide, fun D8 hD8 => ?_⟩
        have w1n : way = 1 := by
          have := V.int.inj w1'
          omega
        have f3 : (fir : Int) % 3 = ((fir % 3 : Nat) : Int) := by omega
        have ch : atI (turnedOf fir).cps.toList ((fir : Int) % 3) = some ((turnedOf fir).cps.toList.getD (fir % 3) 0) := by
          have l : fir % 3 < (turnedOf fir).cps.toList.length := by
            have : (turnedOf fir).cps.toList.length = (turnedOf fir).length := rfl
            omega
          rw [f3, atI_nat (List.getElem?_eq_getElem l), List.getD_eq_getElem?_getD, List.getElem?_eq_getElem l]
          rfl
        refine lc_same (walk_range (lo := 0) (n := 8)) (fun i => match (mulsOf fir)[i]? with | some x => .str x | none => .non) (fun _ => true) (by decide) hD8 (fun _ _ => trivial) (fun k x H6 H7 hk s6 y Q1 R1 q1 _ => ?_) fun H6 s6 hD9 => ?_
        · obtain ⟨rfl, rfl⟩ := y
          have e : (mulsOf fir)[k]? = some (Txt.mul ⟨#[(turnedOf fir).cps.toList.getD (fir % 3) 0]⟩ (1 + (k : Int))) := by
            unfold mulsOf
            rw [List.getElem?_map, List.getElem?_range hk]
            rfl
          rw [e] at q1
          walk_at "rr"
          refine ⟨rfl, k_yes ?_⟩
          walk_at "rr"
          refine ⟨turnedOf fir, _, _, rfl, rfl, sz _ (by omega), ch, ?_⟩
          walk_at "rr"
          refine ⟨_, _, rfl, rfl, (by show 1 ≤ 1000; decide), by omega, by omega, ?_⟩
          rw [Int.zero_add]
          exact q1 rfl _ (Same.refl _)
        have ml : (mulsOf fir).length = 8 := by
          unfold mulsOf
          rw [List.length_map, List.length_range]
        rw [range_all, ← ml, range_get (mulsOf fir) _ V.str (fun k x e => by rw [e])] at hD9
        walk_at "rr"
        exact ⟨D8, _, none, rfl, ⟨fun _ => rfl, fun z => absurd w1n z⟩, hD9, s6 _ _ (s5 _ _ hw4), ((D4.mono (by omega)).same s5).same s6, (x4.trans (Same.ext s5)).trans (Same.ext s6), (D4.same s5).off hD8, ext_free (x4.trans (Same.ext s5)) ((D4.same s5).off hD8) hD8⟩
      · walk_at "rr"
        exact ⟨L0, _, none, rfl, ⟨fun z => absurd (by rw [z]; rfl) w1', fun _ => rfl⟩, hD1, s5 _ _ hw4, (D4.mono (by omega)).same s5, x4.trans (Same.ext s5), L0n, L0f⟩
    · rintro σ5 H7 ⟨L, zs, o8, rfl, hz, hL, hw7, D7, x7, Ln, Lf⟩
      refine ⟨Mid 5 P2, ?_, ?_⟩
      · walk_at "rr"
        refine k_iteD (fun w1' => ?_) fun w1' => ?_
        · walk_at "rr"
          refine ⟨d, c, b + 4, 7, rfl, D7, by omega, by decide, by decide, fun at_ H8 a0 a1 D8 x8 => ?_⟩
          obtain ⟨at_, rfl⟩ := Int.eq_ofNat_of_zero_le a0
          have at7 : at_ < 7 := by omega
          have w2n : way = 2 := by
            have := V.int.inj w1'
            omega
          walk_at "rr"
          refine ⟨turnedOf fir, rfl, sz _ (by omega), _, rfl, fun D9 hD9 => ?_⟩
          refine lc_same walk_str (fun i => match (putsOf fir at_)[i]? with | some x => .str x | none => .non) (fun _ => true) (by omega) hD9 (fun _ _ => trivial) (fun k x H9 H10 hk s9 y Q1 R1 q1 _ => ?_) fun H9 s9 hD10 => ?_
          · obtain ⟨rfl, cc, hc, rfl⟩ := y
            have e : (putsOf fir at_)[k]? = some ((cutS (turnedOf fir) (some 8) (some (8 + (at_ : Int))) ++ ⟨#[cc]⟩) ++ cutS (turnedOf fir) (some (9 + (at_ : Int))) (some 16)) := by
              unfold putsOf
              rw [List.getElem?_map, sg k cc hc]
              rfl
            rw [e] at q1
            have c1 := J1.cutS_len_le (turnedOf fir) (some 8) (some (8 + (at_ : Int)))
            have c2 := J1.cutS_len_le (turnedOf fir) (some (9 + (at_ : Int))) (some 16)
            walk_at "rr"
            refine ⟨rfl, k_yes ?_⟩
            walk_at "rr"
            refine ⟨turnedOf fir, rfl, sz _ (by omega), ?_⟩
            walk_at "rr"
            refine ⟨_, _, rfl, rfl, sz _ (by show _ + 1 ≤ 1000; omega), ?_⟩
            walk_at "rr"
            refine ⟨turnedOf fir, rfl, sz _ (by omega), ?_⟩
            walk_at "rr"
            refine ⟨_, _, rfl, rfl, sz _ (by rw [Str.length_append]; show _ + 1 + _ ≤ 1000; omega), ?_⟩
            exact q1 rfl _ (Same.refl _)
          have pl : (putsOf fir at_).length = 8 := by
            unfold putsOf
            rw [List.length_map, tl3]
          rw [range_all, sgl, ← pl, range_get (putsOf fir at_) _ V.str (fun k x e => by rw [e])] at hD10
          walk_at "rr"
          have hw8 : StrsAt H8 wl words := x8.2 _ _ hwD hw7
          exact ⟨D9, _, some (.int at_), rfl, ⟨fun z => absurd (w2n.symm.trans z) (by decide), fun _ => ⟨at_, at7, rfl⟩, fun _ z => absurd w2n z⟩, hD10, s9 _ _ hw8, (D8.mono (by omega)).same s9, (x7.trans x8).trans (Same.ext s9), D8.off hD9, ext_free (x7.trans x8) (D8.off hD9) hD9⟩
        · walk_at "rr"
          exact ⟨L, zs, o8, rfl, ⟨hz.1, fun z => absurd (by rw [z]; rfl) w1', fun z _ => hz.2 z⟩, hL, hw7, D7.mono (by omega), x7, Ln, Lf⟩
      · rintro σ5 H7 ⟨L, zs, o8, rfl, hz, hL, hw7, D7, x7, Ln, Lf⟩
        refine ⟨Mid 5 P3, ?_, ?_⟩
        · walk_at "rr"
          refine k_iteD (fun w1' => ?_) fun w1' => ?_
          · have w3 : way = 3 := by
              have := V.int.inj w1'
              omega
            walk_at "rr"
            refine ⟨wl, words, o8, rfl, ⟨0, by decide, ?_⟩, hw7, hw7, D7, x7, hwD, wlH⟩
            subst w3
            rfl
          · walk_at "rr"
            refine ⟨L, zs, o8, rfl, ?_, hL, hw7, D7, x7, Ln, Lf⟩
            have w3 : way ≠ 3 := fun z => w1' (by rw [z]; rfl)
            show ∃ a, a < 7 ∧ zs = foundOf way fir a
            unfold foundOf
            by_cases z1 : way = 1
            · exact ⟨0, by decide, by rw [if_pos z1]; exact hz.1 z1⟩
            · by_cases z2 : way = 2
              · obtain ⟨a, a7, e⟩ := hz.2.1 z2
                exact ⟨a, a7, by rw [if_neg z1, if_pos z2]; exact e⟩
              · exact ⟨0, by decide, by rw [if_neg z1, if_neg z2, if_neg w3]; exact hz.2.2 z1 z2⟩
        · rintro σ5 H7 ⟨L, zs, o8, rfl, ⟨at_, at7, rfl⟩, hL, hw7, D7, x7, Ln, Lf⟩
          have e8 := eight_of way4 fir26 at7
          generalize foundOf way fir at_ = zs at e8 hL
          walk_at "rr"
          refine ⟨many, rfl, by omega, by omega, fun D9 hD9 => ?_⟩
          have D9n : ¬ Dk d c D9 := D7.off hD9
          have D9f : H D9 = none := ext_free x7 D9n hD9
          have nLD : L ≠ D9 := fun z => by
            rw [z, StrsAt, hD9] at hL
            cases hL
          refine lc_it (walk_range (lo := 0) (n := many)) (fun k H' => ∃ ys xs : List Str, H' D9 = some (.lst (ys.map V.str)) ∧ StrsAt H' L xs ∧ ys.length = k ∧ (ys ++ xs).Perm zs ∧ Deck d c (b + 5 + k) H' ∧ Ext (Dk d c) H H')
            ⟨[], zs, upd_same, (upd_ne nLD).trans hL, rfl, .refl _, by simpa using D7.new hD9, ext_off x7 D9f⟩ (fun _ _ _ _ => trivial) (fun k x H8 H9 hk h y => ?_) fun H8 h => ?_
          · obtain ⟨ys, xs, hD, hLx, ly, pm, D8, x8⟩ := h
            obtain ⟨rfl, rfl⟩ := y
            have lx : xs.length = 8 - k := by
              have := pm.length_eq
              rw [List.length_append, e8.len] at this
              omega
            walk_at "rr"
            refine ⟨rfl, k_yes ?_⟩
            walk_at "rr"
            refine ⟨.inl ⟨rfl, _, SqL.of hLx⟩, ?_⟩
            walk_at "rr"
            rw [List.length_map]
            refine ⟨d, c, b + 5 + k, xs.length, rfl, D8, by omega, by omega, by omega, fun r H10 r0 r1 D10 x10 => ?_⟩
            obtain ⟨r, rfl⟩ := Int.eq_ofNat_of_zero_le r0
            have rl : r < xs.length := by omega
            have hL10 := x10.2 _ _ Ln hLx
            have hD10 := x10.2 _ _ D9n hD
            walk_at "rr"
            refine ⟨L, _, r, r, .str xs[r], rfl, rfl, hL10, by omega, by omega, ?_, ?_, ?_⟩
            · rw [List.length_map]
              unfold seqIndex?
              have n0 : ¬ ((r : Int) < 0) := by omega
              simp only [n0, if_false]
              rw [if_pos (by rw [Bool.and_eq_true]; exact ⟨decide_eq_true (by omega), decide_eq_true (by omega)⟩)]
              rfl
            · rw [List.getElem?_map, List.getElem?_eq_getElem rl]
              rfl
            · refine ⟨_, (upd_ne nLD.symm).trans hD10, k_szL (by rw [List.length_map]; omega), ys ++ [xs[r]], xs.eraseIdx r, ?_, ?_, ?_, ?_, ?_, ?_⟩
              · rw [upd_same, List.map_append]
                rfl
              · rw [StrsAt, upd_ne nLD, upd_same, er_map]
              · rw [List.length_append, ly]
                rfl
              · rw [List.append_assoc]
                exact (List.Perm.append_left ys (er_perm xs r rl)).trans pm
              · refine ((D10.offL Ln).offL D9n).mono (by omega)
              · exact ext_off (ext_off (x8.trans x10) Lf) D9f
          · obtain ⟨ys, xs, hD, hLx, ly, pm, D8, x8⟩ := h
            have nd2 := (pm.nodup_iff.mpr e8.nd)
            exact k D9 ys H8 ly (List.nodup_append.mp nd2).1 (fun z hz => e8.nm z (pm.mem_iff.mp (List.mem_append_left _ hz))) (D8.mono (by omega)) x8 hD D9n D9f
end
end K03

set_option Elab.async false
set_option maxRecDepth 100000
set_option maxHeartbeats 4000000
set_option linter.unusedVariables false
namespace K03
open PySem PySem.Spec PyProof.Rows L2 Own
-- steps
local macro_rules | `(tactic| walk_at "lk") => `(tactic| first
  | assumption | exact upd_same
  | ((with_reducible refine' lk_new ?e (by assumption)); (case e => walk_at "lk"))
  | ((with_reducible refine' lk_ext (by assumption) ?e); (case e => walk_at "lk"))
  | ((with_reducible refine' lk_same (by assumption) ?e); (case e => walk_at "lk")))
local macro_rules | `(tactic| walk_at "sq") => `(tactic| first | assumption | exact SqL.of (by walk_at "lk") | exact SqT.of (by walk_at "lk"))
local macro_rules | `(tactic| walk_at "r1") => `(tactic| first
  | with_reducible refine k_seq ?_ | with_reducible refine k_asg ?_ | with_reducible refine k_ret ?_ | with_reducible refine k_drop ?_ | with_reducible refine k_next ?_ | with_reducible refine k_ifS ?_
  | ((with_reducible refine' k_var ?e ?_); (case e => exact rfl)) | with_reducible refine k_c ?_ | with_reducible refine k_op ?_ | with_reducible refine k_un ?_ | with_reducible refine k_test ?_ | with_reducible refine k_B ?_
  | with_reducible refine k_and ?_ | with_reducible refine k_or ?_ | with_reducible refine k_not ?_ | with_reducible refine k_andV ?_ | with_reducible refine k_orV ?_ | with_reducible refine k_notV ?_ | with_reducible refine k_if ?_
  | with_reducible refine k_nil ?_ | with_reducible refine k_cons ?_ | with_reducible refine k_tup ?_ | with_reducible refine k_lst ?_ | with_reducible refine k_call ?_ | with_reducible refine k_cb ?_ | with_reducible refine k_ck ?_
  | with_reducible refine k_par ?_ | with_reducible refine k_par1 ?_ | with_reducible refine k_tr ?_ | with_reducible refine k_rI0 ?_ | with_reducible refine k_rU ?_
  | with_reducible refine k_gN ?_ | with_reducible refine k_gS ?_ | with_reducible refine k_gNil ?_ | with_reducible refine k_gCons ?_ | with_reducible refine k_bm0 ?_ | with_reducible refine k_bm ?_
  | with_reducible refine k_for ?_ | with_reducible refine k_iL ?_ | with_reducible refine k_iT ?_ | with_reducible refine k_iR1 ?_ | ((with_reducible refine k_iR1i ?e ?_); (case e => first | decide | exact ⟨by omega, by omega⟩))
  | with_reducible refine k_max ?_ | with_reducible refine k_isB ?_ | with_reducible refine k_sl ?_ | with_reducible refine k_noP ?_ | with_reducible refine k_part ?_ | with_reducible refine k_partI ?_ | with_reducible refine k_revL ?_
  | ((with_reducible refine' k_ixqT ?e ?f ?_); (case e => walk_at "sq"); (case f => first | exact rfl | exact atI_head))
  | ((with_reducible refine' k_ixqL ?e ?f ?_); (case e => walk_at "sq"); (case f => first | exact rfl | exact atI_head))
  | ((with_reducible refine' k_lenL ?e ?_); (case e => walk_at "sq"))
  | ((with_reducible refine' k_lenT ?e ?_); (case e => walk_at "sq"))
  | ((with_reducible refine' k_ixL ?e ?f ?_); (case e => walk_at "sq"); (case f => first | exact rfl | exact atI_head))
  | ((with_reducible refine' k_ixT ?e ?f ?_); (case e => walk_at "sq"); (case f => first | exact rfl | exact atI_head))
  | ((with_reducible refine k_eq ?e ?_); (case e => exact rfl)) | ((with_reducible refine k_ne ?e ?_); (case e => exact rfl))
  | ((with_reducible refine k_rI ?e ?_); (case e => first | assumption | omega | decide | exact ⟨by omega, by omega⟩ | exact .inl ⟨by omega, by omega⟩ | exact .inr ⟨by omega, by omega⟩)))
local macro_rules | `(tactic| walk_at "rd") => `(tactic| repeat walk_at "r1")
local macro_rules | `(tactic| walk_at "r2") => `(tactic| first
  | walk_at "r1"
  | with_reducible refine k_ifTt ?_ | with_reducible refine k_ifFf ?_ | with_reducible refine k_ifNt ?_ | with_reducible refine k_ifNf ?_
  | with_reducible refine k_makeR ?_ | with_reducible refine k_tJ ?_ | with_reducible refine k_tJc ?_ | with_reducible refine k_tJn ?_ | with_reducible refine k_fmt ?_ | with_reducible refine k_lc ?_ | with_reducible refine k_din ?_ | with_reducible refine k_fld ?_ | with_reducible refine k_dget ?_
  | with_reducible refine k_dput ?_
  | with_reducible refine k_isNv ?_
  | with_reducible refine k_notNv ?_
  | with_reducible refine k_str ?_
  | with_reducible refine k_enumT ?_
  | with_reducible refine k_zipA ?_
  | with_reducible refine k_chain ?_
  | ((with_reducible refine' k_dgS ?e dkv_cells ?_); (case e => walk_at "lk"))
  | ((with_reducible refine' k_dgS ?e dkv_mixed ?_); (case e => walk_at "lk"))
  | ((with_reducible refine' k_dgS ?e dkv_turn ?_); (case e => walk_at "lk")))
local macro_rules | `(tactic| walk_at "rr") => `(tactic| repeat walk_at "r2")
-- steps end
section
variable {P : Program} {w : World} {K : PySem.W.Frag} {mg : Str → Option Value} {g0 : Heap}
abbrev s_table : Stmt := top 27
theorem sc_table : FnScope ["_law_deck_here", "_law_name", "_law_columns", "_law_marks", "_law_k", "_law_one"] ["_law_deck_here", "_law_name"] (defScope s_table) :=
  ⟨rfl, rfl, rfl, by decide +kernel, rfl, by decide +kernel, by decide +kernel⟩
abbrev s_tables : Stmt := top 28
theorem sc_tables : FnScope ["_law_deck_here", "_law_many", "_law_name"] ["_law_deck_here", "_law_many"] (defScope s_tables) :=
  ⟨rfl, rfl, rfl, by decide +kernel, rfl, by decide +kernel, by decide +kernel⟩
theorem ixN_0 (n : Nat) : ixN (n + 1) 0 = some 0 := by
  unfold ixN
  simp
def spTableL : Sp := fun vs H Q _ => ∃ (d c : Addr) (b : Int) (nm : Str), vs = [.ref d, .str nm] ∧ Deck d c b H ∧ b ≤ 900000 ∧ isNameB nm = true ∧
  ∀ (a : Addr) (t : T) (H' : Hp), t.nm = nm → t.Ok → TAt H' a t → Deck d c (b + 30) H' → Ext (Dk d c) H H' → Q (.ref a) H'
theorem ok_tableL {f : Addr} {fd : FuncData} (F : Fun K "_law_table" "_law_table" s_table f fd) (z_range : mg "range" = none) (z_tuple : mg "tuple" = none) (z_sorted : mg "sorted" = none)
    (C_draw : Cal P w K mg g0 "_law_draw" 1 ["_law_deck_here", "_law_many"] spDraw) (C_names : Cal P w K mg g0 "_law_names" 2 ["_law_deck_here", "_law_many"] spNames) : GOk P w K mg g0 CX0 3 f fd ["_law_deck_here", "_law_name"] spTableL := by
  have nd := sc_table.nd
  refine okG F sc_table (fun vs H Q E h => ?_) (fun cdv A up s H vs Q E qt hr h => ?_)
  · obtain ⟨d, c, b, nm, rfl, _⟩ := h
    rfl
  · obtain ⟨d, c, b, nm, rfl, D, hb, hn, k⟩ := h
    refine ⟨_, (pss_cons (ps_set (i := 2) nd rfl (Or.inl rfl) (pe_slice sl_list (pe_c C_names qt (hr.mono (by decide)) (pa_cons (pv 0) (pa_cons pe_int pa_nil))) po_none (po_some (pe_op op_add pe_int (pe_c C_draw qt (hr.mono (by decide)) (pa_cons (pv 0) (pa_cons pe_int pa_nil)))))))
        (Evl.pss_cut (ps_if (PW.pt (pw_and (pt_cmpR op_eq (pe_c C_draw qt (hr.mono (by decide)) (pa_cons (pv 0) (pa_cons pe_int pa_nil))) pe_int (nomark _)) (pw_and1 (pt_cmpR (op_notInK (K := K) rfl) (pv 1) (pv 2) (by rfl))))) (pss_one (ps_asg (pv 1) (pg_sub (pv 2) pe_int set_list))) pss_nil)
        (pss_cons (ps_set (i := 3) nd rfl (Or.inl rfl) (pe_lst pa_nil))
        (pss_cons (ps_for PassesOwn.never rfl (pi_range1 (by rfl) z_range (pa_cons pe_int pa_nil)) (pg_name (i := 4) nd rfl (Or.inl rfl)) (pss_one (ps_expr (pe_bm PySem.F.plainAttrs_list PySem.F.slot_list_append PySem.F.type_list_append mt_append (pv 3) (pa_cons (pe_callTy call_tuple_of (by rfl) z_tuple (by decide +kernel) (pa_cons (pe_lc (own := [("_law_one", 5)]) (g := (gName 5)) (tt := (tTest (tOp _ (tCall _ [] E0 (tCons (tVar 0) (tCons (tC (.int 2)) tNil))) (tC (.int 0))))) (te := (tVar 5)) (by rfl) nd (pi_list (pe_callB cr_sortedS (by rfl) z_sorted (by decide +kernel) (pa_cons (pv 2) pa_nil))) (blkOk_by (own := [("_law_one", 5)]) (N := ["_law_deck_here", "_law_name", "_law_columns", "_law_marks", "_law_k", "_law_one"]) (sc := defScope s_table) (by decide +kernel)) (fun _ _ _ _ _ => by exact (pg_name (i := 5) nd rfl (Or.inl rfl))) (fun _ _ _ _ _ => by exact (pts_one (pt_cmpR op_eq (pe_c C_draw qt (hr.mono (by decide)) (pa_cons (pv 0) (pa_cons pe_int pa_nil))) pe_int (nomark _)))) (fun _ _ _ _ _ => by exact (pv 5))) pa_nil)) pa_nil)))))
        (pss_one (ps_ret (pe_tup (pa_cons (pv 1) (pa_cons (pe_callTy call_tuple_of (by rfl) z_tuple (by decide +kernel) (pa_cons (pv 2) pa_nil)) (pa_cons (pe_ix ix_seq (pv 3) pe_int (fun _ _ => rfl)) (pa_cons (pe_ix ix_seq (pv 3) pe_int (fun _ _ => rfl)) pa_nil))))))))))), ?_⟩
    walk_at "rr"
    refine ⟨d, c, b, 3, rfl, D, by omega, by decide, fun l zs H1 lz ndz nz D1 x1 hl nl hf => ?_⟩
    walk_at "rr"
    refine ⟨d, c, b + 10, 3, rfl, D1, by omega, by decide, by decide, fun r H2 r0 r1 D2 x2 => ?_⟩
    obtain ⟨r, rfl⟩ := Int.eq_ofNat_of_zero_le r0
    walk_at "rr"
    have e1r : (1 + (r : Int)) = ((1 + r : Nat) : Int) := by omega
    have hl2 : StrsAt H2 l zs := x2.2 _ _ nl hl
    refine ⟨l, _, rfl, SqL.of hl2, fun p0 hp0 => ?_⟩
    rw [e1r, cut_to, ← List.map_take]
    have D3 := D2.new (o := .lst ((zs.take (1 + r)).map V.str)) hp0
    have x3 := (x1.trans x2).trans (ext_new (o := .lst ((zs.take (1 + r)).map V.str)) hp0)
    have h3 : StrsAt (upd H2 p0 (.lst ((zs.take (1 + r)).map V.str))) p0 (zs.take (1 + r)) := upd_same
    have n3 : ¬ Dk d c p0 := D2.off hp0
    have n0 := n3
    have f3 : H p0 = none := ext_free (x1.trans x2) n3 hp0
    have l3 : (zs.take (1 + r)).length = 1 + r := by
      rw [List.length_take]
      omega
    have nd3 : (zs.take (1 + r)).Nodup := ndz.sublist (List.take_sublist _ _)
    have nz3 : ∀ z ∈ zs.take (1 + r), isNameB z = true := fun z hz => nz z (List.mem_of_mem_take hz)
    generalize upd H2 p0 _ = H3 at D3 x3 h3 ⊢
    generalize zs.take (1 + r) = cs at h3 l3 nd3 nz3
    walk_at "rr"
    let Mid : L2.St → Hp → Prop := fun σ' H' => ∃ cs : List Str, σ' = [some (.ref d), some (.str nm), some (.ref p0), none, none, none] ∧ StrsAt H' p0 cs ∧ 1 ≤ cs.length ∧ cs.length ≤ 3 ∧ cs.Nodup ∧ (∀ z ∈ cs, isNameB z = true) ∧ Deck d c (b + 12) H' ∧ Ext (Dk d c) H H'
    refine ⟨Mid, ?_, ?_⟩
    · walk_at "rr"
      refine ⟨d, c, b + 10 + 1, 4, rfl, D3, by omega, by decide, by decide, fun r2 H4 r20 r21 D4 x4 => ?_⟩
      have h4 : StrsAt H4 p0 cs := x4.2 _ _ n3 h3
      walk_at "rr"
      have same : Mid [some (.ref d), some (.str nm), some (.ref p0), none, none, none] H4 := ⟨cs, rfl, h4, by omega, by omega, nd3, nz3, D4.mono (by omega), x3.trans x4⟩
      refine k_iteD (fun z1 => ?_) fun z1 => ?_
      · walk_at "rr"
        refine ⟨p0, _, rfl, .inl (SqL.of h4), rfl, L2.flat_strs _, ?_⟩
        rw [if_pos rfl, inV_strs]
        by_cases hm : nm ∈ cs
        · rw [decide_eq_true hm]
          walk_at "rr"
          exact same
        · rw [decide_eq_false hm]
          walk_at "rr"
          match cs, h4, l3, nd3, nz3, hm with
          | [], _, l3, _, _, _ => rw [List.length_nil] at l3; omega
          | x :: cs, h4, l3, nd3, nz3, hm =>
            refine k_setL h4 (j := 0) (by rw [List.length_map]; exact ixN_0 _) ?_
            have nd5 := List.nodup_cons.mp nd3
            refine ⟨nm :: cs, rfl, upd_same, by simp, by rw [List.length_cons] at *; omega, List.nodup_cons.mpr ⟨fun z => hm (List.mem_cons_of_mem _ z), nd5.2⟩, fun z hz => ?_, (D4.mono (by omega)).offL n3, ext_off (x3.trans x4) f3⟩
            rcases List.mem_cons.mp hz with rfl | hz
            · exact hn
            · exact nz3 z (List.mem_cons_of_mem _ hz)
      · walk_at "rr"
        exact same
    · rintro σ4 H4 ⟨cs, rfl, h4, l1, l2, nd4, nz4, D4, x4⟩
      walk_at "rr"
      refine ⟨k_sz rfl, fun m0 hm0 => ?_⟩
      have m0n : ¬ Dk d c m0 := D4.off hm0
      have m0f : H m0 = none := ext_free x4 m0n hm0
      have npm : p0 ≠ m0 := fun z => by
        rw [← z, h4] at hm0
        cases hm0
      walk_at "rr"
      refine ⟨2, rfl, by decide, by decide, ?_⟩
      let Pv : Nat → L2.St → Hp → Prop := fun k σ' H' => ∃ (o4 : Option V) (ms : List (Addr × List Str)), σ' = [some (.ref d), some (.str nm), some (.ref p0), some (.ref m0), o4, none] ∧ StrsAt H' p0 cs ∧ H' m0 = some (.lst (ms.map fun m => V.ref m.1)) ∧ ms.length = k ∧
        (∀ m ∈ ms, H' m.1 = some (.tup (m.2.map V.str)) ∧ (∀ z ∈ m.2, z ∈ cs) ∧ m.2.Pairwise sLt) ∧ Deck d c (b + 12 + 3 * k) H' ∧ Ext (Dk d c) H H'
      refine for_it (walk_range (lo := 0) (n := 2)) Pv ⟨none, [], rfl, (upd_ne npm).trans h4, upd_same, rfl, (fun _ z => by cases z), by simpa using D4.new hm0, ext_off x4 m0f⟩ (fun _ _ _ _ _ => trivial) (fun k x σ H5 H6 hk h y => ?_) fun σ H5 h => ?_
      · obtain ⟨o4, ms, rfl, h5, hM, lm, am, D5, x5⟩ := h
        obtain ⟨rfl, rfl⟩ := y
        walk_at "rr"
        refine ⟨.inl ⟨rfl, _, SqL.of hM⟩, ?_⟩
        walk_at "rr"
        refine ⟨p0, cs, rfl, SqL.of h5, by omega, fun ys q pm hs hq => ?_⟩
        have D6 := D5.new (o := .lst (ys.map V.str)) hq
        have x6 := x5.trans (ext_new (o := .lst (ys.map V.str)) hq)
        have q6 : (upd H6 q (.lst (ys.map V.str))) q = some (.lst (ys.map V.str)) := upd_same
        have qn : ¬ Dk d c q := D5.off hq
        have qf : H q = none := ext_free x5 qn hq
        have a6 : ∀ m ∈ ms, (upd H6 q (.lst (ys.map V.str))) m.1 = some (.tup (m.2.map V.str)) ∧ (∀ z ∈ m.2, z ∈ cs) ∧ m.2.Pairwise sLt := fun m hm => ⟨Same.upd hq _ _ (am m hm).1, (am m hm).2⟩
        have p6 : StrsAt (upd H6 q (.lst (ys.map V.str))) p0 cs := Same.upd hq _ _ h5
        have M6 := Same.upd (o := .lst (ys.map V.str)) hq _ _ hM
        generalize upd H6 q (.lst (ys.map V.str)) = H7 at D6 x6 q6 a6 p6 M6 ⊢
        refine ⟨q, rfl, ⟨_, SqL.of q6⟩, fun D9 hD9 => ?_⟩
        have D9n : ¬ Dk d c D9 := D6.off hD9
        have D9f : H D9 = none := ext_free x6 D9n hD9
        have ly : ys.length ≤ 3 := by rw [pm.length_eq]; exact l2
        have x70 : Ext (Dk d c) H7 (upd H7 D9 (.lst [])) := ext_new hD9
        refine lc_it (walk_list (xs := ys.map V.str)) (fun i H' => ∃ gs : List Str, H' D9 = some (.lst (gs.map V.str)) ∧ gs.Sublist (ys.take i) ∧ Deck d c (b + 12 + 3 * k + i) H' ∧ Ext (Dk d c) H7 H')
          ⟨[], upd_same, List.nil_sublist _, by simpa using D6.new hD9, x70⟩ (fun i H' _ h => ?_) (fun i x H8 H9 hi h y => ?_) fun H8 h => ?_
        · obtain ⟨_, _, _, _, x8⟩ := h
          exact SqL.of (x8.2 _ _ qn q6)
        · obtain ⟨gs, hD, sb, D8, x8⟩ := h
          obtain ⟨rfl, y⟩ := y
          have e : (ys.map V.str)[i]? = some x := y
          rw [List.getElem?_map] at e
          obtain ⟨z, hz, rfl⟩ := Option.map_eq_some_iff.mp e
          have hi3 : i < ys.length := (List.getElem?_eq_some_iff.mp hz).1
          have lg : gs.length ≤ 3 := by
            have := sb.length_le
            rw [List.length_take] at this
            omega
          have tk : ys.take (i + 1) = ys.take i ++ [z] := by
            rw [List.take_add_one, hz]
            rfl
          walk_at "rr"
          refine ⟨rfl, ?_⟩
          walk_at "rr"
          refine ⟨d, c, _, 2, rfl, D8, by omega, by decide, by decide, fun r3 H10 r30 r31 D10 x10 => ?_⟩
          have hD10 := x10.2 _ _ D9n hD
          walk_at "rr"
          refine k_iteD (fun _ => ?_) fun _ => ?_
          · walk_at "rr"
            refine ⟨_, hD10, k_szL (by rw [List.length_map]; omega), gs ++ [z], by rw [upd_same, List.map_append]; rfl, ?_, (D10.offL D9n).mono (by omega), ?_⟩
            · rw [tk]
              exact List.Sublist.append sb (List.Sublist.refl _)
            · exact ext_off (x8.trans x10) hD9
          · exact ⟨gs, hD10, by rw [tk]; exact sb.trans (List.sublist_append_left _ _), D10.mono (by omega), x8.trans x10⟩
        · obtain ⟨gs, hD, sb, D8, x8⟩ := h
          rw [List.length_map, List.take_length] at sb
          rw [List.length_map] at D8
          walk_at "rr"
          refine ⟨D9, _, rfl, .inl ⟨SqL.of hD, fun g hg => ?_⟩⟩
          walk_at "rr"
          have hM8 := x8.2 _ _ m0n M6
          have gm : g ≠ m0 := fun z => by
            rw [z, hM8] at hg
            cases hg
          refine k_app (Same.upd hg _ _ hM8) (k_szL (by rw [List.length_map]; omega)) ?_
          walk_at "rr"
          have g1 : ∀ a xs, H8 a = some (.tup xs) → (upd (upd H8 g (.tup (gs.map V.str))) m0 (.lst (ms.map (fun m => V.ref m.1) ++ [V.ref g]))) a = some (.tup xs) := fun a xs e => by
            have n1 : a ≠ m0 := fun z => by
              rw [z, hM8] at e
              cases e
            exact (upd_ne n1).trans (Same.upd hg _ _ e)
          refine ⟨_, ms ++ [(g, gs)], rfl, ?_, ?_, by rw [List.length_append, lm]; rfl, ?_, ?_, ?_⟩
          · exact (upd_ne npm).trans (Same.upd hg _ _ (x8.2 _ _ n0 p6))
          · rw [upd_same, List.map_append]
            rfl
          · intro m hm
            rcases List.mem_append.mp hm with hm | hm
            · exact ⟨g1 _ _ (x8.1 _ _ (a6 m hm).1), (a6 m hm).2⟩
            · obtain rfl := List.mem_singleton.mp hm
              refine ⟨(upd_ne gm).trans upd_same, fun z hz => pm.mem_iff.mp (sb.subset hz), ?_⟩
              exact (ris2 hs (pm.nodup_iff.mpr nd4)).sublist sb
          · exact ((D8.new hg).offL m0n).mono (by omega)
          · exact ext_off ((x6.trans x8).trans (ext_new hg)) m0f
      · obtain ⟨o4, ms, rfl, h5, hM, lm, am, D5, x5⟩ := h
        walk_at "rr"
        refine ⟨p0, _, rfl, .inl ⟨SqL.of h5, fun g hg => ?_⟩⟩
        match ms, lm, hM, am with
        | [m1, m2], _, hM, am =>
          have hM1 : (upd H5 g (.tup (cs.map V.str))) m0 = some (.lst [V.ref m1.1, V.ref m2.1]) := Same.upd hg _ _ hM
          have g5 : (upd H5 g (.tup (cs.map V.str))) g = some (.tup (cs.map V.str)) := upd_same
          obtain ⟨a1, b1, b2⟩ := am m1 (by simp)
          obtain ⟨a2, b3, b4⟩ := am m2 (by simp)
          have a1' := Same.upd (o := .tup (cs.map V.str)) hg _ _ a1
          have a2' := Same.upd (o := .tup (cs.map V.str)) hg _ _ a2
          have D6 := D5.new (o := .tup (cs.map V.str)) hg
          have x6 := x5.trans (ext_new (o := .tup (cs.map V.str)) hg)
          generalize upd H5 g (.tup (cs.map V.str)) = H6 at hM1 g5 a1' a2' D6 x6 ⊢
          walk_at "rr"
          refine ⟨k_sz rfl, fun a ha => ?_⟩
          exact k a ⟨nm, cs, m1.2, m2.2⟩ _ rfl ⟨hn, l1, l2, nz4, nd4, b1, b2, b3, b4⟩ ⟨g, m1.1, m2.1, upd_same, Same.upd ha _ _ g5, Same.upd ha _ _ a1', Same.upd ha _ _ a2'⟩ ((D6.new ha).mono (by omega)) (x6.trans (ext_new ha))
theorem TAt.ext {M : Addr → Prop} {H H' : Hp} {a : Addr} {t : T} (h : TAt H a t) (s : Ext M H H') : TAt H' a t := by
  obtain ⟨c, i, k, h1, h2, h3, h4⟩ := h
  exact ⟨c, i, k, s.1 _ _ h1, s.1 _ _ h2, s.1 _ _ h3, s.1 _ _ h4⟩
/-- tables at hand -/
structure Tabs (ts : List AT) (H : Hp) : Prop where
  at_ : ∀ x ∈ ts, TAt H x.1 x.2
  ok : ∀ x ∈ ts, x.2.Ok
  nd : (namesOf ts).Nodup
theorem Tabs.ext {M : Addr → Prop} {ts : List AT} {H H' : Hp} (h : Tabs ts H) (s : Ext M H H') : Tabs ts H' := ⟨fun x hx => (h.at_ x hx).ext s, h.ok, h.nd⟩
def spTablesL : Sp := fun vs H Q _ => ∃ (d c : Addr) (b : Int) (many : Nat), vs = [.ref d, .int many] ∧ Deck d c b H ∧ b ≤ 800000 ∧ many ≤ 4 ∧
  ∀ (l : Addr) (ts : List AT) (H' : Hp), ts.length = many → Tabs ts H' → H' l = some (.lst (refsOf ts)) → ¬ Dk d c l → H l = none → Deck d c (b + 150) H' → Ext (Dk d c) H H' → Q (.ref l) H'
theorem ok_tablesL {f : Addr} {fd : FuncData} (F : Fun K "_law_tables" "_law_tables" s_tables f fd)
    (C_names : Cal P w K mg g0 "_law_names" 2 ["_law_deck_here", "_law_many"] spNames) (C_table : Cal P w K mg g0 "_law_table" 3 ["_law_deck_here", "_law_name"] spTableL) : GOk P w K mg g0 CX0 4 f fd ["_law_deck_here", "_law_many"] spTablesL := by
  have nd := sc_tables.nd
  refine okG F sc_tables (fun vs H Q E h => ?_) (fun cdv A up s H vs Q E qt hr h => ?_)
  · obtain ⟨d, c, b, many, rfl, _⟩ := h
    rfl
  · obtain ⟨d, c, b, many, rfl, D, hb, hm, k⟩ := h
    refine ⟨_, (pss_one (ps_ret (pe_lc (own := [("_law_name", 2)]) (g := (gName 2)) (tt := tYes) (te := (tCall _ [] E0 (tCons (tVar 0) (tCons (tVar 2) tNil)))) (by rfl) nd (pi_list (pe_c C_names qt (hr.mono (by decide)) (pa_cons (pv 0) (pa_cons (pv 1) pa_nil)))) (blkOk_by (own := [("_law_name", 2)]) (N := ["_law_deck_here", "_law_many", "_law_name"]) (sc := defScope s_tables) (by decide +kernel)) (fun _ _ _ _ _ => by exact (pg_name (i := 2) nd rfl (Or.inl rfl))) (fun _ _ _ _ _ => by exact pts_nil) (fun _ _ _ _ _ => by exact (pe_c C_table qt (hr.mono (by decide)) (pa_cons (pv 0) (pa_cons (pv 2) pa_nil))))))), ?_⟩
    walk_at "rr"
    refine ⟨d, c, b, many, rfl, D, by omega, hm, fun ln zs H1 lz ndz nz D1 x1 hln nln fln => ?_⟩
    refine ⟨ln, rfl, ⟨_, SqL.of hln⟩, fun D9 hD9 => ?_⟩
    have D9n : ¬ Dk d c D9 := D1.off hD9
    have D9f : H D9 = none := ext_free x1 D9n hD9
    refine lc_it (walk_list (xs := zs.map V.str)) (fun i H' => ∃ ts : List AT, H' D9 = some (.lst (refsOf ts)) ∧ namesOf ts = zs.take i ∧ (∀ x ∈ ts, TAt H' x.1 x.2) ∧ (∀ x ∈ ts, x.2.Ok) ∧ Deck d c (b + 10 + 30 * i) H' ∧ Ext (Dk d c) H H' ∧ StrsAt H' ln zs)
      ⟨[], upd_same, rfl, (fun _ z => by cases z), (fun _ z => by cases z), by simpa using D1.new hD9, x1.trans (ext_new hD9), Same.upd hD9 _ _ hln⟩ (fun i H' _ h => ?_) (fun i x H8 H9 hi h y => ?_) fun H8 h => ?_
    · obtain ⟨_, _, _, _, _, _, _, h⟩ := h
      exact SqL.of h
    · obtain ⟨ts, hD, hts, tat, tok, D8, x8, hln8⟩ := h
      obtain ⟨rfl, y⟩ := y
      have e : (zs.map V.str)[i]? = some x := y
      rw [List.getElem?_map] at e
      obtain ⟨z, hz, rfl⟩ := Option.map_eq_some_iff.mp e
      have hi3 : i < zs.length := (List.getElem?_eq_some_iff.mp hz).1
      have lt : ts.length ≤ 4 := by
        have : (namesOf ts).length = (zs.take i).length := by rw [hts]
        unfold namesOf at this
        rw [List.length_map, List.length_take] at this
        omega
      walk_at "rr"
      refine ⟨rfl, k_yes ?_⟩
      walk_at "rr"
      refine ⟨d, c, _, z, rfl, D8, by omega, nz z (List.mem_of_getElem? hz), fun a t H10 tn tk ta D10 x10 => ?_⟩
      have hD10 := x10.2 _ _ D9n hD
      refine ⟨_, hD10, k_szL (by unfold refsOf; rw [List.length_map]; omega), ts ++ [(a, t)], ?_, ?_, ?_, ?_, (D10.offL D9n).mono (by omega), ext_off (x8.trans x10) D9f, ?_⟩
      · rw [upd_same]
        unfold refsOf
        rw [List.map_append]
        rfl
      · unfold namesOf at hts ⊢
        rw [List.map_append, hts, List.take_add_one, hz]
        show _ ++ [t.nm] = _ ++ [z]
        rw [tn]
      · have sm : Tups H10 (upd H10 D9 (.lst (refsOf ts ++ [V.ref a]))) := tups_upd hD10 fun _ z => by cases z
        have up : ∀ {x : Addr} {u : T}, TAt H10 x u → TAt (upd H10 D9 (.lst (refsOf ts ++ [V.ref a]))) x u := fun {x u} h => by
          obtain ⟨c, i, k, h1, h2, h3, h4⟩ := h
          exact ⟨c, i, k, sm _ _ h1, sm _ _ h2, sm _ _ h3, sm _ _ h4⟩
        intro x hx
        rcases List.mem_append.mp hx with hx | hx
        · exact up ((tat x hx).ext x10)
        · obtain rfl := List.mem_singleton.mp hx
          exact up ta
      · intro x hx
        rcases List.mem_append.mp hx with hx | hx
        · exact tok x hx
        · obtain rfl := List.mem_singleton.mp hx
          exact tk
      · have n1 : ln ≠ D9 := fun z => by
          rw [z, StrsAt, hD9] at hln
          cases hln
        exact (upd_ne n1).trans (x10.2 _ _ nln hln8)
    · obtain ⟨ts, hD, hts, tat, tok, D8, x8, hln8⟩ := h
      rw [List.length_map] at D8
      rw [List.length_map, List.take_length] at hts
      have lt : ts.length = many := by
        have : (namesOf ts).length = zs.length := by rw [hts]
        unfold namesOf at this
        rw [List.length_map] at this
        omega
      exact k D9 ts H8 lt ⟨tat, tok, by rw [hts]; exact ndz⟩ hD D9n D9f (D8.mono (by omega)) x8
end
end K03

set_option Elab.async false
set_option maxRecDepth 100000
set_option maxHeartbeats 4000000
set_option linter.unusedVariables false
namespace K03
open PySem PySem.Spec PyProof.Rows L2 Own StX
-- steps
local macro_rules | `(tactic| walk_at "lk") => `(tactic| first
  | assumption | exact upd_same
  | ((with_reducible refine' lk_new ?e (by assumption)); (case e => walk_at "lk"))
  | ((with_reducible refine' lk_ext (by assumption) ?e); (case e => walk_at "lk"))
  | ((with_reducible refine' lk_same (by assumption) ?e); (case e => walk_at "lk")))
local macro_rules | `(tactic| walk_at "sq") => `(tactic| first | assumption | exact SqL.of (by walk_at "lk") | exact SqT.of (by walk_at "lk"))
local macro_rules | `(tactic| walk_at "r1") => `(tactic| first
  | with_reducible refine k_seq ?_ | with_reducible refine k_asg ?_ | with_reducible refine k_ret ?_ | with_reducible refine k_drop ?_ | with_reducible refine k_next ?_ | with_reducible refine k_ifS ?_
  | ((with_reducible refine' k_var ?e ?_); (case e => exact rfl)) | with_reducible refine k_c ?_ | with_reducible refine k_op ?_ | with_reducible refine k_un ?_ | with_reducible refine k_test ?_ | with_reducible refine k_B ?_
  | with_reducible refine k_and ?_ | with_reducible refine k_or ?_ | with_reducible refine k_not ?_ | with_reducible refine k_andV ?_ | with_reducible refine k_orV ?_ | with_reducible refine k_notV ?_ | with_reducible refine k_if ?_
  | with_reducible refine k_nil ?_ | with_reducible refine k_cons ?_ | with_reducible refine k_tup ?_ | with_reducible refine k_lst ?_ | with_reducible refine k_call ?_ | with_reducible refine k_cb ?_ | with_reducible refine k_ck ?_
  | with_reducible refine k_par ?_ | with_reducible refine k_par1 ?_ | with_reducible refine k_tr ?_ | with_reducible refine k_rI0 ?_ | with_reducible refine k_rU ?_
  | with_reducible refine k_gN ?_ | with_reducible refine k_gS ?_ | with_reducible refine k_gNil ?_ | with_reducible refine k_gCons ?_ | with_reducible refine k_bm0 ?_ | with_reducible refine k_bm ?_
  | with_reducible refine k_for ?_ | with_reducible refine k_iL ?_ | with_reducible refine k_iT ?_ | with_reducible refine k_iR1 ?_ | ((with_reducible refine k_iR1i ?e ?_); (case e => first | decide | exact ⟨by omega, by omega⟩))
  | with_reducible refine k_max ?_ | with_reducible refine k_isB ?_ | with_reducible refine k_sl ?_ | with_reducible refine k_noP ?_ | with_reducible refine k_part ?_ | with_reducible refine k_partI ?_ | with_reducible refine k_revL ?_
  | ((with_reducible refine' k_ixqT ?e ?f ?_); (case e => walk_at "sq"); (case f => first | exact rfl | exact atI_head))
  | ((with_reducible refine' k_ixqL ?e ?f ?_); (case e => walk_at "sq"); (case f => first | exact rfl | exact atI_head))
  | ((with_reducible refine' k_lenL ?e ?_); (case e => walk_at "sq"))
  | ((with_reducible refine' k_lenT ?e ?_); (case e => walk_at "sq"))
  | ((with_reducible refine' k_ixL ?e ?f ?_); (case e => walk_at "sq"); (case f => first | exact rfl | exact atI_head))
  | ((with_reducible refine' k_ixT ?e ?f ?_); (case e => walk_at "sq"); (case f => first | exact rfl | exact atI_head))
  | ((with_reducible refine k_eq ?e ?_); (case e => exact rfl)) | ((with_reducible refine k_ne ?e ?_); (case e => exact rfl))
  | ((with_reducible refine k_rI ?e ?_); (case e => first | assumption | omega | decide | exact ⟨by omega, by omega⟩ | exact .inl ⟨by omega, by omega⟩ | exact .inr ⟨by omega, by omega⟩)))
local macro_rules | `(tactic| walk_at "rd") => `(tactic| repeat walk_at "r1")
local macro_rules | `(tactic| walk_at "r2") => `(tactic| first
  | walk_at "r1"
  | with_reducible refine k_ifTt ?_ | with_reducible refine k_ifFf ?_ | with_reducible refine k_ifNt ?_ | with_reducible refine k_ifNf ?_
  | with_reducible refine k_makeR ?_ | with_reducible refine k_tJ ?_ | with_reducible refine k_tJc ?_ | with_reducible refine k_tJn ?_ | with_reducible refine k_fmt ?_ | with_reducible refine k_lc ?_ | with_reducible refine k_din ?_ | with_reducible refine k_fld ?_ | with_reducible refine k_dget ?_
  | with_reducible refine k_dput ?_
  | with_reducible refine k_isNv ?_
  | with_reducible refine k_notNv ?_
  | with_reducible refine k_str ?_
  | with_reducible refine k_enumT ?_
  | with_reducible refine k_zipA ?_
  | with_reducible refine k_chain ?_
  | ((with_reducible refine' k_dgS ?e dkv_cells ?_); (case e => walk_at "lk"))
  | ((with_reducible refine' k_dgS ?e dkv_mixed ?_); (case e => walk_at "lk"))
  | ((with_reducible refine' k_dgS ?e dkv_turn ?_); (case e => walk_at "lk")))
local macro_rules | `(tactic| walk_at "rr") => `(tactic| repeat walk_at "r2")
-- steps end
def spMk (C : Addr) : Sp := fun vs H Q E => ∃ ws rest, vs = ws ++ rest ∧ ws.length = 1 ∧ rest.length ≤ sizeLine ∧ ∀ p, H p = Option.none → spInit C (ws ++ [V.ref p]) (upd H p (.tup rest)) Q E
section
variable {P : Program} {w : World} {K : PySem.W.Frag} {mg : Str → Option Value} {g0 : Heap} {C : Addr}
abbrev s_schema : Stmt := top 29
theorem sc_schema : FnScope ["_law_some"] ["_law_some"] (defScope s_schema) :=
  ⟨rfl, rfl, rfl, by decide +kernel, rfl, by decide +kernel, by decide +kernel⟩
theorem dp_tabsL {H : Hp} {a : Addr} {l : List AT} (ha : H a = some (.lst (refsOf l))) (h : ∀ x ∈ l, TAt H x.1 x.2) : Dp K H (.ref a) (.list ((l.map (·.2)).map T.data)) := .lst (SqL.of ha) (dpAll_T h)
theorem shaped_tabsL {l : List T} (h : ∀ t ∈ l, t.Ok) : SeqAt.shaped (.list (l.map T.data)) = true := by
  have := dep_Ts l
  unfold SeqAt.shaped
  simp [PyData.canLay0, lay_Ts l h, PyData.depth]
  omega
theorem mk_sch {H1 : Hp} {ts : List AT} {Q : VK} (hT : Tabs ts H1) (hl : ts.length ≤ 4) (k : ∀ p zs H', SchAt C H' p ts zs → Same H1 H' → Q (.ref p) H') :
    ∀ (x dx : Addr), H1 x = none → H1 dx = none → dx ≠ x → spMk C (V.ref x :: refsOf ts) (upd (upd H1 dx (HO.own x)) x (HO.ins C dx [])) (fun v H2 => v = V.non ∧ Q (V.ref x) H2) E0 := by
  intro x dx hx hdx ne
  have s0 : Same H1 (upd (upd H1 dx (HO.own x)) x (HO.ins C dx [])) := (Same.upd hdx).trans (Same.upd ((upd_ne fun z => ne z.symm).trans hx))
  refine ⟨[.ref x], refsOf ts, rfl, rfl, Nat.le_trans (by unfold refsOf; rw [List.length_map]; exact hl) (by decide), fun u hu => ?_⟩
  have hxx : (upd (upd H1 dx (HO.own x)) x (HO.ins C dx [])) x = some (.ins C dx []) := upd_same
  generalize upd (upd H1 dx (HO.own x)) x (HO.ins C dx []) = H2 at s0 hu hxx ⊢
  have s1 : Same H2 (upd H2 u (.tup (refsOf ts))) := Same.upd hu
  refine ⟨x, dx, u, ts, rfl, s1 _ _ hxx, upd_same, fun y hy => ⟨((hT.at_ y hy).same s0).same s1, hT.ok y hy⟩, hT.nd, Nat.le_succ_of_le hl, fun H' zs S ke => ⟨rfl, k x zs H' S fun a o e => ?_⟩⟩
  exact ke a o (fun z => by rw [z, hx] at e; cases e) (s1 _ _ (s0 _ _ e))
def spSchemaL (C : Addr) : Sp := fun vs H Q _ => ∃ (l : Addr) (ts : List AT), vs = [.ref l] ∧ H l = some (.lst (refsOf ts)) ∧ Tabs ts H ∧ ts.length ≤ 4 ∧ ∀ p zs H', SchAt C H' p ts zs → Same H H' → Q (.ref p) H'
theorem ok_schemaL {f fi : Addr} {fd : FuncData} (F : Fun K "_law_schema" "_law_schema" s_schema f fd) (z_len : mg "len" = none) (g_Schema : mg "Schema" = some (.ref C)) (S_mk : Mk K C fi) (S_init : FnR P w K mg g0 CX0 4 fi (spMk C)) :
    GOk P w K mg g0 CX0 6 f fd ["_law_some"] (spSchemaL C) := by
  have nd := sc_schema.nd
  refine okG F sc_schema (fun vs H Q E h => ?_) (fun cdv A up s H vs Q E qt hr h => ?_)
  · obtain ⟨l, ts, rfl, _⟩ := h
    rfl
  · obtain ⟨l, ts, rfl, hl, hT, lt, k⟩ := h
    refine ⟨_, (pss_cons (ps_if (pt_cmpR op_lt (pe_callB (c_lenK (K := K) rfl) (by rfl) z_len (by decide +kernel) (pa_cons (pv 0) pa_nil)) pe_int (nomark _)) (pss_one (ps_ret (pe_ifExp (pt_cmpR (op_neD hr.units) (pv 0) (pe_lst pa_nil) (nomark _)) (pe_makeR S_mk S_init (hr.mono (by decide)) (by rfl) g_Schema pass0 (pa_cons (pe_ix ix_seq (pv 0) pe_int (fun _ _ => rfl)) pa_nil)) (pe_makeR0 S_mk S_init (hr.mono (by decide)) (by rfl) g_Schema pass0)))) pss_nil)
        (pss_cons (ps_if (pt_cmpR op_eq (pe_callB (c_lenK (K := K) rfl) (by rfl) z_len (by decide +kernel) (pa_cons (pv 0) pa_nil)) pe_int (nomark _)) (pss_one (ps_ret (pe_makeR S_mk S_init (hr.mono (by decide)) (by rfl) g_Schema pass0 (pa_cons (pe_ix ix_seq (pv 0) pe_int (fun _ _ => rfl)) (pa_cons (pe_ix ix_seq (pv 0) pe_int (fun _ _ => rfl)) pa_nil))))) pss_nil)
        (pss_cons (ps_if (pt_cmpR op_eq (pe_callB (c_lenK (K := K) rfl) (by rfl) z_len (by decide +kernel) (pa_cons (pv 0) pa_nil)) pe_int (nomark _)) (pss_one (ps_ret (pe_makeR S_mk S_init (hr.mono (by decide)) (by rfl) g_Schema pass0 (pa_cons (pe_ix ix_seq (pv 0) pe_int (fun _ _ => rfl)) (pa_cons (pe_ix ix_seq (pv 0) pe_int (fun _ _ => rfl)) (pa_cons (pe_ix ix_seq (pv 0) pe_int (fun _ _ => rfl)) pa_nil)))))) pss_nil)
        (pss_one (ps_ret (pe_makeR S_mk S_init (hr.mono (by decide)) (by rfl) g_Schema pass0 (pa_cons (pe_ix ix_seq (pv 0) pe_int (fun _ _ => rfl)) (pa_cons (pe_ix ix_seq (pv 0) pe_int (fun _ _ => rfl)) (pa_cons (pe_ix ix_seq (pv 0) pe_int (fun _ _ => rfl)) (pa_cons (pe_ix ix_seq (pv 0) pe_int (fun _ _ => rfl)) pa_nil)))))))))), ?_⟩
    match ts, hl, hT, lt, k with
    | [], hl, hT, lt, k =>
      walk_at "rr"
      refine k_sure (by show ((0 : Nat) : Int) < 2; decide) ?_
      walk_at "rr"
      refine ⟨k_sz rfl, fun p hp => ?_⟩
      walk_at "rr"
      refine ⟨_, _, dp_tabsL (Same.upd hp _ _ hl) (fun x z => by cases z), .lst (SqL.of upd_same) .nil, shaped_tabsL (fun t z => by cases z), by decide +kernel, ?_⟩
      walk_at "rr"
      rw [show PyData.eqv (.list ((([] : List AT).map (·.2)).map T.data)) (.list []) = true from by simp [PyData.eqv, PyData.eqvAll]]
      walk_at "rr"
      exact mk_sch (hT.ext (ext_new (M := fun _ => False) hp)) lt fun p2 zs H' S s1 => k p2 zs H' S ((Same.upd hp).trans s1)
    | [a], hl, hT, lt, k =>
      walk_at "rr"
      refine k_sure (by show ((1 : Nat) : Int) < 2; decide) ?_
      walk_at "rr"
      refine ⟨k_sz rfl, fun p hp => ?_⟩
      walk_at "rr"
      refine ⟨_, _, dp_tabsL (Same.upd hp _ _ hl) (fun x z => (hT.at_ x z).same (Same.upd hp)), .lst (SqL.of upd_same) .nil, shaped_tabsL (fun t z => by obtain ⟨x, hx, rfl⟩ := List.mem_map.mp z; exact hT.ok x hx), by decide +kernel, ?_⟩
      rw [show PyData.eqv (.list ((([a] : List AT).map (·.2)).map T.data)) (.list []) = false from by simp [PyData.eqv, PyData.eqvAll]]
      walk_at "rr"
      exact mk_sch (hT.ext (ext_new (M := fun _ => False) hp)) lt fun p2 zs H' S s1 => k p2 zs H' S ((Same.upd hp).trans s1)
    | [a, b], hl, hT, lt, k =>
      walk_at "rr"
      refine k_not1 (by show ¬ ((2 : Nat) : Int) < 2; decide) ?_
      walk_at "rr"
      refine k_sure rfl ?_
      walk_at "rr"
      exact mk_sch hT lt k
    | [a, b, c], hl, hT, lt, k =>
      walk_at "rr"
      refine k_not1 (by show ¬ ((3 : Nat) : Int) < 2; decide) ?_
      walk_at "rr"
      refine k_not1 (by show ¬ V.int ((3 : Nat) : Int) = V.int 2; decide) ?_
      walk_at "rr"
      refine k_sure rfl ?_
      walk_at "rr"
      exact mk_sch hT lt k
    | [a, b, c, e], hl, hT, lt, k =>
      walk_at "rr"
      refine k_not1 (by show ¬ ((4 : Nat) : Int) < 2; decide) ?_
      walk_at "rr"
      refine k_not1 (by show ¬ V.int ((4 : Nat) : Int) = V.int 2; decide) ?_
      walk_at "rr"
      refine k_not1 (by show ¬ V.int ((4 : Nat) : Int) = V.int 3; decide) ?_
      walk_at "rr"
      exact mk_sch hT lt k
    | a :: b :: c :: e :: g :: r, _, _, lt, _ =>
      simp only [List.length_cons] at lt
      omega
end
end K03

set_option Elab.async false
set_option maxRecDepth 100000
set_option maxHeartbeats 4000000
set_option linter.unusedVariables false
namespace K03
open PySem PySem.Spec PyProof.Rows L2 Own
-- steps
local macro_rules | `(tactic| walk_at "lk") => `(tactic| first
  | assumption | exact upd_same
  | ((with_reducible refine' lk_new ?e (by assumption)); (case e => walk_at "lk"))
  | ((with_reducible refine' lk_ext (by assumption) ?e); (case e => walk_at "lk"))
  | ((with_reducible refine' lk_same (by assumption) ?e); (case e => walk_at "lk")))
local macro_rules | `(tactic| walk_at "sq") => `(tactic| first | assumption | exact SqL.of (by walk_at "lk") | exact SqT.of (by walk_at "lk"))
local macro_rules | `(tactic| walk_at "r1") => `(tactic| first
  | with_reducible refine k_seq ?_ | with_reducible refine k_asg ?_ | with_reducible refine k_ret ?_ | with_reducible refine k_drop ?_ | with_reducible refine k_next ?_ | with_reducible refine k_ifS ?_
  | ((with_reducible refine' k_var ?e ?_); (case e => exact rfl)) | with_reducible refine k_c ?_ | with_reducible refine k_op ?_ | with_reducible refine k_un ?_ | with_reducible refine k_test ?_ | with_reducible refine k_B ?_
  | with_reducible refine k_and ?_ | with_reducible refine k_or ?_ | with_reducible refine k_not ?_ | with_reducible refine k_andV ?_ | with_reducible refine k_orV ?_ | with_reducible refine k_notV ?_ | with_reducible refine k_if ?_
  | with_reducible refine k_nil ?_ | with_reducible refine k_cons ?_ | with_reducible refine k_tup ?_ | with_reducible refine k_lst ?_ | with_reducible refine k_call ?_ | with_reducible refine k_cb ?_ | with_reducible refine k_ck ?_
  | with_reducible refine k_par ?_ | with_reducible refine k_par1 ?_ | with_reducible refine k_tr ?_ | with_reducible refine k_rI0 ?_ | with_reducible refine k_rU ?_
  | with_reducible refine k_gN ?_ | with_reducible refine k_gS ?_ | with_reducible refine k_gNil ?_ | with_reducible refine k_gCons ?_ | with_reducible refine k_bm0 ?_ | with_reducible refine k_bm ?_
  | with_reducible refine k_for ?_ | with_reducible refine k_iL ?_ | with_reducible refine k_iT ?_ | with_reducible refine k_iR1 ?_ | ((with_reducible refine k_iR1i ?e ?_); (case e => first | decide | exact ⟨by omega, by omega⟩))
  | with_reducible refine k_max ?_ | with_reducible refine k_isB ?_ | with_reducible refine k_sl ?_ | with_reducible refine k_noP ?_ | with_reducible refine k_part ?_ | with_reducible refine k_partI ?_ | with_reducible refine k_revL ?_
  | ((with_reducible refine' k_ixqT ?e ?f ?_); (case e => walk_at "sq"); (case f => first | exact rfl | exact atI_head))
  | ((with_reducible refine' k_ixqL ?e ?f ?_); (case e => walk_at "sq"); (case f => first | exact rfl | exact atI_head))
  | ((with_reducible refine' k_lenL ?e ?_); (case e => walk_at "sq"))
  | ((with_reducible refine' k_lenT ?e ?_); (case e => walk_at "sq"))
  | ((with_reducible refine' k_ixL ?e ?f ?_); (case e => walk_at "sq"); (case f => first | exact rfl | exact atI_head))
  | ((with_reducible refine' k_ixT ?e ?f ?_); (case e => walk_at "sq"); (case f => first | exact rfl | exact atI_head))
  | ((with_reducible refine k_eq ?e ?_); (case e => exact rfl)) | ((with_reducible refine k_ne ?e ?_); (case e => exact rfl))
  | ((with_reducible refine k_rI ?e ?_); (case e => first | assumption | omega | decide | exact ⟨by omega, by omega⟩ | exact .inl ⟨by omega, by omega⟩ | exact .inr ⟨by omega, by omega⟩)))
local macro_rules | `(tactic| walk_at "rd") => `(tactic| repeat walk_at "r1")
local macro_rules | `(tactic| walk_at "r2") => `(tactic| first
  | walk_at "r1"
  | with_reducible refine k_ifTt ?_ | with_reducible refine k_ifFf ?_ | with_reducible refine k_ifNt ?_ | with_reducible refine k_ifNf ?_
  | with_reducible refine k_makeR ?_ | with_reducible refine k_tJ ?_ | with_reducible refine k_tJc ?_ | with_reducible refine k_tJn ?_ | with_reducible refine k_fmt ?_ | with_reducible refine k_lc ?_ | with_reducible refine k_din ?_ | with_reducible refine k_fld ?_ | with_reducible refine k_dget ?_
  | with_reducible refine k_dput ?_
  | with_reducible refine k_isNv ?_
  | with_reducible refine k_notNv ?_
  | with_reducible refine k_str ?_
  | with_reducible refine k_enumT ?_
  | with_reducible refine k_zipA ?_
  | with_reducible refine k_chain ?_
  | ((with_reducible refine' k_dgS ?e dkv_cells ?_); (case e => walk_at "lk"))
  | ((with_reducible refine' k_dgS ?e dkv_mixed ?_); (case e => walk_at "lk"))
  | ((with_reducible refine' k_dgS ?e dkv_turn ?_); (case e => walk_at "lk")))
local macro_rules | `(tactic| walk_at "rr") => `(tactic| repeat walk_at "r2")
-- steps end
/-! ### the law's lines -/
/-- a table of texts, right or wrong -/
structure T.Small (t : T) : Prop where
  nm : t.nm.length ≤ 8
  c : t.cs.length ≤ 8 ∧ ∀ z ∈ t.cs, z.length ≤ 8
  i : t.is.length ≤ 8 ∧ ∀ z ∈ t.is, z.length ≤ 8
  k : t.ks.length ≤ 8 ∧ ∀ z ∈ t.ks, z.length ≤ 8
theorem T.Ok.small {t : T} (ok : t.Ok) : t.Small := by
  have l1 := some_len ok.ia ok.ii
  have l2 := some_len ok.ka ok.ki
  have l3 := ok.c3
  exact ⟨name_len ok.nm, ⟨by omega, fun z hz => name_len (ok.cn z hz)⟩, ⟨by omega, fun z hz => name_len (ok.cn z (ok.ii z hz))⟩, ⟨by omega, fun z hz => name_len (ok.cn z (ok.ki z hz))⟩⟩
def headOf (t : T) : Str := Str.ofString "table " ++ t.nm ++ Str.ofString " (" ++ Txt.join (Str.ofString ", ") t.cs ++ Str.ofString ")"
def addI (s : Str) (zs : List Str) : Str := zs.foldl (fun a z => a ++ Str.ofString " index " ++ z) s
def addK (s : Str) (zs : List Str) : Str := zs.foldl (fun a z => a ++ Str.ofString " key " ++ z) s
def lineOf (t : T) : Str := addK (addI (headOf t) t.is) t.ks
theorem addI_snoc (s : Str) (zs : List Str) (z : Str) : addI s (zs ++ [z]) = addI s zs ++ Str.ofString " index " ++ z := by
  unfold addI
  rw [List.foldl_append]
  rfl
theorem addK_snoc (s : Str) (zs : List Str) (z : Str) : addK s (zs ++ [z]) = addK s zs ++ Str.ofString " key " ++ z := by
  unfold addK
  rw [List.foldl_append]
  rfl
theorem addI_len {s : Str} {zs : List Str} (h : ∀ z ∈ zs, z.length ≤ 8) : (addI s zs).length ≤ s.length + 15 * zs.length := by
  have q : (Str.ofString " index ").length = 7 := by decide +kernel
  unfold addI
  induction zs generalizing s with
  | nil => simp
  | cons z zs ih =>
    have := ih (s := s ++ Str.ofString " index " ++ z) fun y hy => h y (List.mem_cons_of_mem _ hy)
    have h8 := h z List.mem_cons_self
    rw [Str.length_append, Str.length_append, q] at this
    rw [List.foldl_cons, List.length_cons]
    omega
theorem addK_len {s : Str} {zs : List Str} (h : ∀ z ∈ zs, z.length ≤ 8) : (addK s zs).length ≤ s.length + 15 * zs.length := by
  have q : (Str.ofString " key ").length = 5 := by decide +kernel
  unfold addK
  induction zs generalizing s with
  | nil => simp
  | cons z zs ih =>
    have := ih (s := s ++ Str.ofString " key " ++ z) fun y hy => h y (List.mem_cons_of_mem _ hy)
    have h8 := h z List.mem_cons_self
    rw [Str.length_append, Str.length_append, q] at this
    rw [List.foldl_cons, List.length_cons]
    omega
section
variable {P : Program} {w : World} {K : PySem.W.Frag} {mg : Str → Option Value} {g0 : Heap} {C : Addr}
abbrev s_line : Stmt := top 30
theorem sc_line : FnScope ["_law_one", "_law_line_here", "_law_column", "_law_name", "_law_columns", "_law_indexes", "_law_unique"] ["_law_one"] (defScope s_line) :=
  ⟨rfl, rfl, rfl, by decide +kernel, rfl, by decide +kernel, by decide +kernel⟩
abbrev s_whole : Stmt := top 31
theorem sc_whole : FnScope ["_law_some", "_law_one"] ["_law_some"] (defScope s_whole) :=
  ⟨rfl, rfl, rfl, by decide +kernel, rfl, by decide +kernel, by decide +kernel⟩
def spLine : Sp := fun vs H Q _ => ∃ (a : Addr) (t : T), vs = [.ref a] ∧ TAt H a t ∧ t.Small ∧ ((lineOf t).length ≤ 1000 → Q (.str (lineOf t)) H)
theorem ok_line {f : Addr} {fd : FuncData} (F : Fun K "_law_line" "_law_line" s_line f fd) : GOk P w K mg g0 CX0 1 f fd ["_law_one"] spLine := by
  have nd := sc_line.nd
  refine okG F sc_line (fun vs H Q E h => ?_) (fun cdv A up s H vs Q E qt hr h => ?_)
  · obtain ⟨a, t, rfl, _⟩ := h
    rfl
  · obtain ⟨a, t, rfl, ht, sm, k⟩ := h
    obtain ⟨c, i, u, h1, h2, h3, h4⟩ := ht
    refine ⟨_, (pss_cons (ps_asg (pv 0) (pg_tup rfl (pgs_cons (pg_name (i := 3) nd rfl (Or.inl rfl)) (pgs_cons (pg_name (i := 4) nd rfl (Or.inl rfl)) (pgs_cons (pg_name (i := 5) nd rfl (Or.inl rfl)) (pgs_cons (pg_name (i := 6) nd rfl (Or.inl rfl)) pgs_nil))))))
        (pss_cons (ps_set (i := 1) nd rfl (Or.inl rfl) (pe_op op_add_str (pe_op op_add_str (pe_op op_add_str (pe_op op_add_str pe_str (pv 3)) pe_str) (pe_join pe_str (pv 4))) pe_str))
        (pss_cons (ps_for PassesOwn.never rfl (pi_tup (pv 5)) (pg_name (i := 2) nd rfl (Or.inl rfl)) (pss_one (ps_set (i := 1) nd rfl (Or.inl rfl) (pe_op op_add_str (pe_op op_add_str (pv 1) pe_str) (pv 2)))))
        (pss_cons (ps_for PassesOwn.never rfl (pi_tup (pv 6)) (pg_name (i := 2) nd rfl (Or.inl rfl)) (pss_one (ps_set (i := 1) nd rfl (Or.inl rfl) (pe_op op_add_str (pe_op op_add_str (pv 1) pe_str) (pv 2)))))
        (pss_one (ps_ret (pv 1))))))), ?_⟩
    walk_at "rr"
    refine k_gTup (SqT.of h1) rfl ?_
    walk_at "rr"
    have sz : ∀ n : Nat, n ≤ 1000 → n ≤ sizeLine := fun n h => Nat.le_trans h (by decide)
    have q1 : (Str.ofString "table ").length = 6 := by decide +kernel
    have q2 : (Str.ofString " (").length = 2 := by decide +kernel
    have q3 : (Str.ofString ")").length = 1 := by decide +kernel
    have q4 : (Str.ofString ", ").length = 2 := by decide +kernel
    have q5 : (Str.ofString " index ").length = 7 := by decide +kernel
    have q6 : (Str.ofString " key ").length = 5 := by decide +kernel
    have j1 := join_len (Str.ofString ", ") t.cs
    have s3 := sum_le sm.c.2
    have c8 := sm.c.1
    have n8 := sm.nm
    rw [q4] at j1
    have hl : (headOf t).length ≤ 100 := by
      unfold headOf
      rw [Str.length_append, Str.length_append, Str.length_append, Str.length_append, q1, q2, q3]
      omega
    refine ⟨_, _, rfl, rfl, sz _ (by omega), ?_⟩
    walk_at "rr"
    refine ⟨_, _, rfl, rfl, sz _ (by rw [Str.length_append]; omega), ?_⟩
    walk_at "rr"
    refine ⟨⟨_, rfl⟩, _, rfl, _, c, t.cs, rfl, rfl, .inr (SqT.of h2), by rw [q4]; omega, ?_⟩
    refine ⟨_, _, rfl, rfl, sz _ (by rw [Str.length_append, Str.length_append]; omega), ?_⟩
    walk_at "rr"
    refine ⟨_, _, rfl, rfl, sz _ (by rw [Str.length_append, Str.length_append, Str.length_append]; omega), ?_⟩
    walk_at "rr"
    have i8 := sm.i.1
    have k8 := sm.k.1
    let Pi : Nat → L2.St → Hp → Prop := fun j σ H' => H' = H ∧ ∃ o2, σ = [some (.ref a), some (.str (addI (headOf t) (t.is.take j))), o2, some (.str t.nm), some (.ref c), some (.ref i), some (.ref u)]
    refine ⟨i, rfl, ⟨_, SqT.of h3⟩, for_it (walk_tup (xs := t.is.map V.str)) Pi ⟨rfl, none, rfl⟩ (fun j σ H' _ h => by obtain ⟨rfl, _⟩ := h; exact SqT.of h3) (fun j v σ H5 H6 hj h yy => ?_) fun σ H5 h => ?_⟩
    · obtain ⟨rfl, o2, rfl⟩ := h
      obtain ⟨rfl, yy⟩ := yy
      have e : (t.is.map V.str)[j]? = some v := yy
      rw [List.getElem?_map] at e
      obtain ⟨z, hz, rfl⟩ := Option.map_eq_some_iff.mp e
      have z8 := sm.i.2 z (List.mem_of_getElem? hz)
      have a8 := addI_len (s := headOf t) (zs := t.is.take j) fun y hy => sm.i.2 y (List.mem_of_mem_take hy)
      rw [List.length_take] at a8
      walk_at "rr"
      refine ⟨_, _, rfl, rfl, sz _ (by omega), ?_⟩
      walk_at "rr"
      refine ⟨_, _, rfl, rfl, sz _ (by rw [Str.length_append]; omega), ?_⟩
      walk_at "rr"
      refine ⟨rfl, some (.str z), ?_⟩
      rw [List.take_add_one, hz]
      show (_ : L2.St) = [some (V.ref a), some (V.str (addI (headOf t) (t.is.take j ++ [z]))), some (V.str z), some (V.str t.nm), some (V.ref c), some (V.ref i), some (V.ref u)]
      rw [addI_snoc]
      rfl
    · obtain ⟨rfl, o2, rfl⟩ := h
      rw [List.length_map, List.take_length]
      walk_at "rr"
      have b8 := addI_len (s := headOf t) sm.i.2
      let Pk : Nat → L2.St → Hp → Prop := fun j σ H' => H' = H5 ∧ ∃ o2, σ = [some (.ref a), some (.str (addK (addI (headOf t) t.is) (t.ks.take j))), o2, some (.str t.nm), some (.ref c), some (.ref i), some (.ref u)]
      refine ⟨u, rfl, ⟨_, SqT.of h4⟩, for_it (walk_tup (xs := t.ks.map V.str)) Pk ⟨rfl, o2, rfl⟩ (fun j σ H' _ h => by obtain ⟨rfl, _⟩ := h; exact SqT.of h4) (fun j v σ H5 H6 hj h yy => ?_) fun σ H5 h => ?_⟩
      · obtain ⟨rfl, o2, rfl⟩ := h
        obtain ⟨rfl, yy⟩ := yy
        have e : (t.ks.map V.str)[j]? = some v := yy
        rw [List.getElem?_map] at e
        obtain ⟨z, hz, rfl⟩ := Option.map_eq_some_iff.mp e
        have z8 := sm.k.2 z (List.mem_of_getElem? hz)
        have a8 := addK_len (s := addI (headOf t) t.is) (zs := t.ks.take j) fun y hy => sm.k.2 y (List.mem_of_mem_take hy)
        rw [List.length_take] at a8
        walk_at "rr"
        refine ⟨_, _, rfl, rfl, sz _ (by omega), ?_⟩
        walk_at "rr"
        refine ⟨_, _, rfl, rfl, sz _ (by rw [Str.length_append]; omega), ?_⟩
        walk_at "rr"
        refine ⟨rfl, some (.str z), ?_⟩
        rw [List.take_add_one, hz]
        show (_ : L2.St) = [some (V.ref a), some (V.str (addK (addI (headOf t) t.is) (t.ks.take j ++ [z]))), some (V.str z), some (V.str t.nm), some (V.ref c), some (V.ref i), some (V.ref u)]
        rw [addK_snoc]
        rfl
      · obtain ⟨rfl, o2, rfl⟩ := h
        rw [List.length_map, List.take_length]
        walk_at "rr"
        have a8 := addK_len (s := addI (headOf t) t.is) sm.k.2
        refine k ?_
        show (addK (addI (headOf t) t.is) t.ks).length ≤ 1000
        omega
/-- both ways of writing a table are one -/
theorem line_tt (t : T) : lineOf t = ttOf t := by
  have hI : ∀ (zs : List Str) (s : Str), (addI s zs).cps.toList = s.cps.toList ++ zs.flatMap fun z => (F1 z).cps.toList := by
    intro zs
    induction zs with
    | nil => intro s; simp [addI]
    | cons z zs ih =>
      intro s
      have : addI s (z :: zs) = addI (s ++ Str.ofString " index " ++ z) zs := rfl
      rw [this, ih]
      have e1 : (s ++ Str.ofString " index " ++ z).cps = s.cps ++ (Str.ofString " index ").cps ++ z.cps := rfl
      have e2 : (F1 z).cps = Str.empty.cps ++ (Str.ofString " index ").cps ++ z.cps := rfl
      have e3 : Str.empty.cps = #[] := rfl
      rw [e1]
      simp [e2, e3]
  have hK : ∀ (zs : List Str) (s : Str), (addK s zs).cps.toList = s.cps.toList ++ zs.flatMap fun z => (F2 z).cps.toList := by
    intro zs
    induction zs with
    | nil => intro s; simp [addK]
    | cons z zs ih =>
      intro s
      have : addK s (z :: zs) = addK (s ++ Str.ofString " key " ++ z) zs := rfl
      rw [this, ih]
      have e1 : (s ++ Str.ofString " key " ++ z).cps = s.cps ++ (Str.ofString " key ").cps ++ z.cps := rfl
      have e2 : (F2 z).cps = Str.empty.cps ++ (Str.ofString " key ").cps ++ z.cps := rfl
      have e3 : Str.empty.cps = #[] := rfl
      rw [e1]
      simp [e2, e3]
  have hJ : ∀ ws : List Str, (Txt.join (Str.ofString "") ws).cps.toList = ws.flatMap fun z => z.cps.toList := by
    intro ws
    have e0 : (Str.ofString "").cps = #[] := by decide +kernel
    have h : ∀ (ps : List Str) (A : Array Nat), (ps.foldl (fun acc p => acc ++ (Str.ofString "").cps ++ p.cps) A).toList = A.toList ++ ps.flatMap fun z => z.cps.toList := by
      intro ps
      induction ps with
      | nil => intro A; simp
      | cons p ps ih =>
        intro A
        rw [List.foldl_cons, ih, e0]
        simp
    match ws with
    | [] => rfl
    | w :: ws => exact h ws w.cps
  refine TL.ext_tl ?_
  show (lineOf t).cps.toList = (ttOf t).cps.toList
  unfold lineOf
  rw [hK, hI]
  have e : (ttOf t).cps = (Str.empty ++ Str.ofString "table " ++ t.nm ++ Str.ofString " (" ++ Txt.join (Str.ofString ", ") t.cs ++ Str.ofString ")").cps ++ (Txt.join (Str.ofString "") (t.is.map F1 ++ t.ks.map F2)).cps := rfl
  have e2 : (Str.empty ++ Str.ofString "table " ++ t.nm ++ Str.ofString " (" ++ Txt.join (Str.ofString ", ") t.cs ++ Str.ofString ")").cps = (headOf t).cps := by
    have e3 : (Str.empty ++ Str.ofString "table ") = Str.ofString "table " := by decide +kernel
    unfold headOf
    rw [e3]
  rw [e, e2, Array.toList_append, hJ, List.flatMap_append, List.flatMap_map, List.flatMap_map, List.append_assoc]
def spWhole : Sp := fun vs H Q _ => ∃ (l : Addr) (us : List AT), vs = [.ref l] ∧ H l = some (.lst (refsOf us)) ∧ (∀ x ∈ us, TAt H x.1 x.2 ∧ x.2.Small) ∧ us.length ≤ 5 ∧ ∀ H', Same H H' → Q (.str (Txt.join (Str.ofString "\n") (us.map fun x => lineOf x.2))) H'
theorem ok_whole {f : Addr} {fd : FuncData} (F : Fun K "_law_whole" "_law_whole" s_whole f fd) (C_line : Cal P w K mg g0 "_law_line" 1 ["_law_one"] spLine) : GOk P w K mg g0 CX0 2 f fd ["_law_some"] spWhole := by
  have nd := sc_whole.nd
  refine okG F sc_whole (fun vs H Q E h => ?_) (fun cdv A up s H vs Q E qt hr h => ?_)
  · obtain ⟨l, us, rfl, _⟩ := h
    rfl
  · obtain ⟨l, us, rfl, hl, ha, lu, k⟩ := h
    refine ⟨_, (pss_one (ps_ret (pe_join pe_str (pe_lc (own := [("_law_one", 1)]) (g := (gName 1)) (tt := tYes) (te := (tCall _ [] E0 (tCons (tVar 1) tNil))) (by rfl) nd (pi_list (pv 0)) (blkOk_by (own := [("_law_one", 1)]) (N := ["_law_some", "_law_one"]) (sc := defScope s_whole) (by decide +kernel)) (fun _ _ _ _ _ => by exact (pg_name (i := 1) nd rfl (Or.inl rfl))) (fun _ _ _ _ _ => by exact pts_nil) (fun _ _ _ _ _ => by exact (pe_c C_line qt (hr.mono (by decide)) (pa_cons (pv 1) pa_nil))))))), ?_⟩
    walk_at "rr"
    have rl : (refsOf us).length = us.length := List.length_map ..
    refine ⟨⟨_, rfl⟩, ?_⟩
    walk_at "rr"
    refine ⟨l, rfl, ⟨_, SqL.of hl⟩, fun D hD => ?_⟩
    refine lc_same (walk_list (xs := refsOf us)) (fun i => match us[i]? with | some x => .str (lineOf x.2) | none => .non) (fun _ => true) (by omega) hD (fun H5 s5 => SqL.of (s5 _ _ hl)) (fun j v H5 H6 hj s5 yy Q1 R1 q1 _ => ?_) fun H5 s5 hD1 => ?_
    · obtain ⟨rfl, yy⟩ := yy
      have e : (refsOf us)[j]? = some v := yy
      unfold refsOf at e
      rw [List.getElem?_map] at e
      obtain ⟨x, hx, rfl⟩ := Option.map_eq_some_iff.mp e
      rw [hx] at q1
      obtain ⟨tx, sm⟩ := ha x (List.mem_of_getElem? hx)
      walk_at "rr"
      refine ⟨rfl, k_yes ?_⟩
      walk_at "rr"
      exact ⟨x.1, x.2, rfl, tx.same s5, sm, fun _ => q1 rfl _ (Same.refl _)⟩
    rw [range_all, rl, range_get us _ (fun x => V.str (lineOf x.2)) (fun k x e => by rw [e])] at hD1
    walk_at "rr"
    have ll : ∀ x ∈ us, (lineOf x.2).length ≤ 1000 := fun x hx => by
      have sm := (ha x hx).2
      have a8 := addK_len (s := addI (headOf x.2) x.2.is) sm.k.2
      have b8 := addI_len (s := headOf x.2) sm.i.2
      have i8 := sm.i.1
      have k8 := sm.k.1
      have q1 : (Str.ofString "table ").length = 6 := by decide +kernel
      have q2 : (Str.ofString " (").length = 2 := by decide +kernel
      have q3 : (Str.ofString ")").length = 1 := by decide +kernel
      have q4 : (Str.ofString ", ").length = 2 := by decide +kernel
      have j1 := join_len (Str.ofString ", ") x.2.cs
      have s3 := sum_le sm.c.2
      have c8 := sm.c.1
      have n8 := sm.nm
      rw [q4] at j1
      have hl : (headOf x.2).length ≤ 100 := by
        unfold headOf
        rw [Str.length_append, Str.length_append, Str.length_append, Str.length_append, q1, q2, q3]
        omega
      show (addK (addI (headOf x.2) x.2.is) x.2.ks).length ≤ 1000
      omega
    have sl := sum_le (zs := us.map fun x => lineOf x.2) (b := 1000) fun z hz => by
      obtain ⟨x, hx, rfl⟩ := List.mem_map.mp hz
      exact ll x hx
    rw [List.length_map] at sl
    have q1 : (Str.ofString "\n").length = 1 := by decide +kernel
    refine ⟨_, D, us.map fun x => lineOf x.2, rfl, rfl, .inl (SqL.of ?_), by rw [List.length_map, q1]; omega, ?_⟩
    · rw [hD1, List.map_map]
      rfl
    exact k _ s5
end
end K03

set_option Elab.async false
set_option maxRecDepth 100000
set_option maxHeartbeats 4000000
set_option linter.unusedVariables false
namespace K03
open PySem PySem.Spec PyProof.Rows L2 Own
-- steps
local macro_rules | `(tactic| walk_at "lk") => `(tactic| first
  | assumption | exact upd_same
  | ((with_reducible refine' lk_new ?e (by assumption)); (case e => walk_at "lk"))
  | ((with_reducible refine' lk_ext (by assumption) ?e); (case e => walk_at "lk"))
  | ((with_reducible refine' lk_same (by assumption) ?e); (case e => walk_at "lk")))
local macro_rules | `(tactic| walk_at "sq") => `(tactic| first | assumption | exact SqL.of (by walk_at "lk") | exact SqT.of (by walk_at "lk"))
local macro_rules | `(tactic| walk_at "r1") => `(tactic| first
  | with_reducible refine k_seq ?_ | with_reducible refine k_asg ?_ | with_reducible refine k_ret ?_ | with_reducible refine k_drop ?_ | with_reducible refine k_next ?_ | with_reducible refine k_ifS ?_
  | ((with_reducible refine' k_var ?e ?_); (case e => exact rfl)) | with_reducible refine k_c ?_ | with_reducible refine k_op ?_ | with_reducible refine k_un ?_ | with_reducible refine k_test ?_ | with_reducible refine k_B ?_
  | with_reducible refine k_and ?_ | with_reducible refine k_or ?_ | with_reducible refine k_not ?_ | with_reducible refine k_andV ?_ | with_reducible refine k_orV ?_ | with_reducible refine k_notV ?_ | with_reducible refine k_if ?_
  | with_reducible refine k_nil ?_ | with_reducible refine k_cons ?_ | with_reducible refine k_tup ?_ | with_reducible refine k_lst ?_ | with_reducible refine k_call ?_ | with_reducible refine k_cb ?_ | with_reducible refine k_ck ?_
  | with_reducible refine k_par ?_ | with_reducible refine k_par1 ?_ | with_reducible refine k_tr ?_ | with_reducible refine k_rI0 ?_ | with_reducible refine k_rU ?_
  | with_reducible refine k_gN ?_ | with_reducible refine k_gS ?_ | with_reducible refine k_gNil ?_ | with_reducible refine k_gCons ?_ | with_reducible refine k_bm0 ?_ | with_reducible refine k_bm ?_
  | with_reducible refine k_for ?_ | with_reducible refine k_iL ?_ | with_reducible refine k_iT ?_ | with_reducible refine k_iR1 ?_ | ((with_reducible refine k_iR1i ?e ?_); (case e => first | decide | exact ⟨by omega, by omega⟩))
  | with_reducible refine k_max ?_ | with_reducible refine k_isB ?_ | with_reducible refine k_sl ?_ | with_reducible refine k_noP ?_ | with_reducible refine k_part ?_ | with_reducible refine k_partI ?_ | with_reducible refine k_revL ?_
  | ((with_reducible refine' k_ixqT ?e ?f ?_); (case e => walk_at "sq"); (case f => first | exact rfl | exact atI_head))
  | ((with_reducible refine' k_ixqL ?e ?f ?_); (case e => walk_at "sq"); (case f => first | exact rfl | exact atI_head))
  | ((with_reducible refine' k_lenL ?e ?_); (case e => walk_at "sq"))
  | ((with_reducible refine' k_lenT ?e ?_); (case e => walk_at "sq"))
  | ((with_reducible refine' k_ixL ?e ?f ?_); (case e => walk_at "sq"); (case f => first | exact rfl | exact atI_head))
  | ((with_reducible refine' k_ixT ?e ?f ?_); (case e => walk_at "sq"); (case f => first | exact rfl | exact atI_head))
  | ((with_reducible refine k_eq ?e ?_); (case e => exact rfl)) | ((with_reducible refine k_ne ?e ?_); (case e => exact rfl))
  | ((with_reducible refine k_rI ?e ?_); (case e => first | assumption | omega | decide | exact ⟨by omega, by omega⟩ | exact .inl ⟨by omega, by omega⟩ | exact .inr ⟨by omega, by omega⟩)))
local macro_rules | `(tactic| walk_at "rd") => `(tactic| repeat walk_at "r1")
local macro_rules | `(tactic| walk_at "r2") => `(tactic| first
  | walk_at "r1"
  | with_reducible refine k_ifTt ?_ | with_reducible refine k_ifFf ?_ | with_reducible refine k_ifNt ?_ | with_reducible refine k_ifNf ?_
  | with_reducible refine k_makeR ?_ | with_reducible refine k_tJ ?_ | with_reducible refine k_tJc ?_ | with_reducible refine k_tJn ?_ | with_reducible refine k_fmt ?_ | with_reducible refine k_lc ?_ | with_reducible refine k_din ?_ | with_reducible refine k_fld ?_ | with_reducible refine k_dget ?_
  | with_reducible refine k_dput ?_
  | with_reducible refine k_isNv ?_
  | with_reducible refine k_notNv ?_
  | with_reducible refine k_str ?_
  | with_reducible refine k_enumT ?_
  | with_reducible refine k_zipA ?_
  | with_reducible refine k_chain ?_
  | ((with_reducible refine' k_dgS ?e dkv_cells ?_); (case e => walk_at "lk"))
  | ((with_reducible refine' k_dgS ?e dkv_mixed ?_); (case e => walk_at "lk"))
  | ((with_reducible refine' k_dgS ?e dkv_turn ?_); (case e => walk_at "lk")))
local macro_rules | `(tactic| walk_at "rr") => `(tactic| repeat walk_at "r2")
-- steps end
/-! ### right or wrong, told -/
def ascL (zs : List Str) : List Bool := List.zipWith (fun a b => decide (sLt a b)) zs (zs.drop 1)
def ascB (zs : List Str) : Bool := (ascL zs).all id
theorem slt_trans {a b c : Str} (h : sLt a b) (h2 : sLt b c) : sLt a c := List.lt_trans h h2
theorem ascB_iff : ∀ zs : List Str, ascB zs = decide (zs.Pairwise sLt)
  | [] => by simp [ascB, ascL]
  | [z] => by simp [ascB, ascL]
  | x :: y :: zs => by
    have ih := ascB_iff (y :: zs)
    have e : ascB (x :: y :: zs) = (decide (sLt x y) && ascB (y :: zs)) := by simp [ascB, ascL]
    rw [e, ih]
    by_cases h : sLt x y
    · rw [decide_eq_true h, Bool.true_and]
      refine decide_eq_decide.mpr ⟨fun p => ?_, fun p => (List.pairwise_cons.mp p).2⟩
      refine List.pairwise_cons.mpr ⟨fun z hz => ?_, p⟩
      rcases List.mem_cons.mp hz with rfl | hz
      · exact h
      · exact slt_trans h ((List.pairwise_cons.mp p).1 z hz)
    · rw [decide_eq_false h, Bool.false_and]
      exact (decide_eq_false fun p => h ((List.pairwise_cons.mp p).1 y List.mem_cons_self)).symm
section
variable {P : Program} {w : World} {K : PySem.W.Frag} {mg : Str → Option Value} {base : Heap}
def spAscB : Sp := fun vs H Q _ => ∃ (a : Addr) (zs : List Str), vs = [.ref a] ∧ H a = some (.tup (zs.map V.str)) ∧ zs.length ≤ 100 ∧ ∀ H', Same H H' → Q (.bl (decide (zs.Pairwise sLt))) H'
theorem ok_ascB {f : Addr} {fd : FuncData} (F : Fun K "is_ascending" "is_ascending" s_is_ascending f fd) (z_zip : mg "zip" = none) (z_all : mg "all" = none) :
    FnOk P w K mg base CX0 1 f fd ["things"] spAscB := by
  have nd := sc_is_ascending.nd
  refine F.ok sc_is_ascending (fun vs H Q E h => ?_) (fun cdv A up s H vs Q E hr h => ?_)
  · obtain ⟨a, zs, rfl, _⟩ := h
    rfl
  · obtain ⟨a, zs, rfl, ha, hl, k⟩ := h
    refine ⟨_, (pss_one (ps_ret (pe_callB (cr_all rfl) (by rfl) z_all (by decide +kernel) (pa_cons (pe_lc (own := [("one", 1), ("other", 2)]) (g := (gTup K 2 (gCons (gName 1) (gCons (gName 2) gNil)))) (tt := tYes) (te := (tOp _ (tVar 1) (tVar 2))) (by rfl) nd (RZ.pi_zipA (by rfl) z_zip (pa_cons (pv 0) (pa_cons (pe_slice sl_tupA (pv 0) (po_some pe_int) po_none) pa_nil))) (blkOk_by (own := [("one", 1), ("other", 2)]) (N := ["things", "one", "other"]) (sc := defScope s_is_ascending) (by decide +kernel)) (fun _ _ _ _ _ => by exact (pg_tup rfl (pgs_cons (pg_name (i := 1) nd rfl (Or.inl rfl)) (pgs_cons (pg_name (i := 2) nd rfl (Or.inl rfl)) pgs_nil)))) (fun _ _ _ _ _ => by exact pts_nil) (fun _ _ _ _ _ => by exact (pe_cmpR op_lt_str (pv 1) (pv 2) (nomark _)))) pa_nil)))), ?_⟩
    walk_at "rr"
    refine sla_of ha cut_from fun b H1 s1 hb => ?_
    rw [← List.map_drop] at hb
    walk_at "rr"
    have la : (ascL zs).length = zs.length - 1 := by
      unfold ascL
      rw [List.length_zipWith, List.length_drop]
      omega
    refine ⟨a, b, _, _, rfl, .inr ⟨SqT.of (s1 _ _ ha), SqT.of hb, fun D hD => ?_⟩⟩
    refine lc_same (walk_zipT (n := zs.length - 1) (by simp only [List.length_map, List.length_drop]; omega)) (fun i => match (ascL zs)[i]? with | some t => .bl t | none => .non) (fun _ => true) (by omega) hD (fun H2 s2 => ⟨SqT.of (s2 _ _ (s1 _ _ ha)), SqT.of (s2 _ _ hb)⟩) (fun k x H2 H3 hk s2 y Q1 R1 q1 _ => ?_) fun H2 s2 hD1 => ?_
    · obtain ⟨T, x1, x2, rfl, hT, rfl, e1, e2⟩ := y
      have e1 : (zs.map V.str)[k]? = some x1 := e1
      have e2 : ((zs.drop 1).map V.str)[k]? = some x2 := e2
      rw [List.getElem?_map] at e1 e2
      obtain ⟨y1, f1, rfl⟩ := Option.map_eq_some_iff.mp e1
      obtain ⟨y2, f2, rfl⟩ := Option.map_eq_some_iff.mp e2
      have ea : (ascL zs)[k]? = some (decide (sLt y1 y2)) := by
        unfold ascL
        rw [List.getElem?_zipWith, f1, f2]
      rw [ea] at q1
      refine k_gTup (SqT.of upd_same) rfl ?_
      walk_at "rr"
      refine ⟨rfl, k_yes ?_⟩
      walk_at "rr"
      exact ⟨y1, y2, rfl, rfl, q1 rfl _ (Same.upd hT)⟩
    · rw [range_all, ← la, range_get (ascL zs) _ V.bl (fun k x e => by rw [e])] at hD1
      walk_at "rr"
      refine ⟨D, ascL zs, rfl, SqL.of hD1, ?_⟩
      have := k H2 (s1.trans s2)
      rw [← ascB_iff] at this
      exact this
def spSomeB : Sp := fun vs H Q _ => ∃ (a c : Addr) (zs cs : List Str), vs = [.ref a, .ref c] ∧ H a = some (.tup (zs.map V.str)) ∧ H c = some (.tup (cs.map V.str)) ∧ zs.length ≤ 100 ∧ ∀ H', Same H H' → Q (.bl (decide ((∀ z ∈ zs, z ∈ cs) ∧ zs.Pairwise sLt))) H'
theorem ok_someB {f : Addr} {fd : FuncData} (F : Fun K "_are_some" "_are_some" s__are_some f fd) (C_is_ascending : CalF P w K mg base "is_ascending" 1 ["things"] spAscB)
    (z_isinstance : mg "isinstance" = none) (z_tuple : mg "tuple" = none) (z_all : mg "all" = none) :
    FnOk P w K mg base CX0 2 f fd ["thing", "columns"] spSomeB := by
  have nd := sc__are_some.nd
  refine F.ok sc__are_some (fun vs H Q E h => ?_) (fun cdv A up s H vs Q E hr h => ?_)
  · obtain ⟨a, c, zs, cs, rfl, _⟩ := h
    rfl
  · obtain ⟨a, c, zs, cs, rfl, ha, hc, hl, k⟩ := h
    refine ⟨_, (pss_one (ps_ret (pe_and (pe_callB call_isi (by rfl) z_isinstance (by decide +kernel) (pa_cons (pv 0) (pa_cons (pe_bltn (v := .ty "tuple") (by rfl) z_tuple PyProof.Rows.boot_tuple rfl) pa_nil))) (pe_and (pe_callB (cr_all rfl) (by rfl) z_all (by decide +kernel) (pa_cons (pe_lc (own := [("column", 2)]) (g := (gName 2)) (tt := tYes) (te := (tOp _ (tVar 2) (tVar 1))) (by rfl) nd (pi_tup (pv 0)) (blkOk_by (own := [("column", 2)]) (N := ["thing", "columns", "column"]) (sc := defScope s__are_some) (by decide +kernel)) (fun _ _ _ _ _ => by exact (pg_name (i := 2) nd rfl (Or.inl rfl))) (fun _ _ _ _ _ => by exact pts_nil) (fun _ _ _ _ _ => by exact (pe_cmpR (op_inK (K := K) rfl) (pv 2) (pv 1) (by rfl)))) pa_nil)) (pe_one (pe_cf C_is_ascending (hr.mono (by decide)) (pa_cons (pv 0) pa_nil))))))), ?_⟩
    walk_at "rr"
    refine isi_t (.base (.tup ha)) (b := true) (by decide +kernel) ?_
    walk_at "rr"
    refine ⟨_, rfl, ⟨_, SqT.of ha⟩, fun D hD => ?_⟩
    refine lc_same (walk_tup (xs := zs.map V.str)) (fun i => match zs[i]? with | some z => .bl (decide (z ∈ cs)) | none => .non) (fun _ => true) (by rw [List.length_map]; omega) hD (fun H2 s2 => SqT.of (s2 _ _ ha)) (fun k x H2 H3 hk s2 y Q1 R1 q1 _ => ?_) fun H2 s2 hD1 => ?_
    · obtain ⟨rfl, y⟩ := y
      have e : (zs.map V.str)[k]? = some x := y
      rw [List.getElem?_map] at e
      obtain ⟨z, hz, rfl⟩ := Option.map_eq_some_iff.mp e
      rw [hz] at q1
      walk_at "rr"
      refine ⟨rfl, k_yes ?_⟩
      walk_at "rr"
      refine ⟨_, _, rfl, .inr (SqT.of (s2 _ _ hc)), rfl, L2.flat_strs _, ?_⟩
      rw [if_neg (by decide), inV_strs]
      exact q1 rfl _ (Same.refl _)
    · rw [range_all, List.length_map, range_get zs _ (fun z => V.bl (decide (z ∈ cs))) (fun k x e => by rw [e])] at hD1
      walk_at "rr"
      refine ⟨D, zs.map fun z => decide (z ∈ cs), rfl, SqL.of (by rw [hD1, List.map_map]; rfl), ?_⟩
      have ea : (zs.map fun z => decide (z ∈ cs)).all id = decide (∀ z ∈ zs, z ∈ cs) := by
        rw [List.all_map]
        rw [Bool.eq_iff_iff]
        simp
      rw [ea]
      by_cases hm : ∀ z ∈ zs, z ∈ cs
      · rw [decide_eq_true hm]
        walk_at "rr"
        refine ⟨a, zs, rfl, s2 _ _ ha, hl, fun H3 s3 => ?_⟩
        have := k H3 (s2.trans s3)
        rw [show decide ((∀ z ∈ zs, z ∈ cs) ∧ zs.Pairwise sLt) = decide (zs.Pairwise sLt) from decide_eq_decide.mpr ⟨fun h => h.2, fun h => ⟨hm, h⟩⟩] at this
        exact this
      · rw [decide_eq_false hm]
        walk_at "rr"
        have := k H2 s2
        rw [decide_eq_false fun h => hm h.1] at this
        exact this
def spColsB : Sp := fun vs H Q _ => ∃ (a : Addr) (zs : List Str), vs = [.ref a] ∧ H a = some (.tup (zs.map V.str)) ∧ zs.length ≤ 100 ∧ (∀ z ∈ zs, isNameB z = true) ∧ ∀ H', Same H H' → Q (.bl (decide (1 ≤ zs.length ∧ zs.length ≤ 3 ∧ zs.Nodup))) H'
theorem ok_colsB {f : Addr} {fd : FuncData} (F : Fun K "_are_columns" "_are_columns" s__are_columns f fd) (C_is_name : CalF P w K mg base "is_name" 1 ["thing"] spName)
    (z_isinstance : mg "isinstance" = none) (z_tuple : mg "tuple" = none) (z_len : mg "len" = none) (z_all : mg "all" = none) (z_set : mg "set" = none) {t : Tok} (c_MOST_COLUMNS : mg "MOST_COLUMNS" = some (.int 3 t)) :
    FnOk P w K mg base CX0 2 f fd ["thing"] spColsB := by
  have nd := sc__are_columns.nd
  refine F.ok sc__are_columns (fun vs H Q E h => ?_) (fun cdv A up s H vs Q E hr h => ?_)
  · obtain ⟨a, zs, rfl, _⟩ := h
    rfl
  · obtain ⟨a, zs, rfl, ha, hl, hn, k⟩ := h
    refine ⟨_, (pss_cons (ps_if (PW.pt (pw_or (pt_not (pt_val (pe_callB call_isi (by rfl) z_isinstance (by decide +kernel) (pa_cons (pv 0) (pa_cons (pe_bltn (v := .ty "tuple") (by rfl) z_tuple PyProof.Rows.boot_tuple rfl) pa_nil))))) (pw_or1 (pt_not (pt_chain op_le op_le pe_int (pe_callB (c_lenK (K := K) rfl) (by rfl) z_len (by decide +kernel) (pa_cons (pv 0) pa_nil)) (pe_glob (v := .int 3) rfl c_MOST_COLUMNS ⟨_, rfl⟩)))))) (pss_one (ps_ret pe_bl)) pss_nil)
        (pss_one (ps_ret (pe_and (pe_callB (cr_all rfl) (by rfl) z_all (by decide +kernel) (pa_cons (pe_lc (own := [("column", 1)]) (g := (gName 1)) (tt := tYes) (te := (tCall _ [] E0 (tCons (tVar 1) tNil))) (by rfl) nd (pi_tup (pv 0)) (blkOk_by (own := [("column", 1)]) (N := ["thing", "column"]) (sc := defScope s__are_columns) (by decide +kernel)) (fun _ _ _ _ _ => by exact (pg_name (i := 1) nd rfl (Or.inl rfl))) (fun _ _ _ _ _ => by exact pts_nil) (fun _ _ _ _ _ => by exact (pe_cf C_is_name (hr.mono (by decide)) (pa_cons (pv 1) pa_nil)))) pa_nil)) (pe_one (pe_cmpR op_eq (pe_callB call_lenK (by rfl) z_len (by decide +kernel) (pa_cons (pe_callTy (call_setS rfl) (by rfl) z_set (by decide +kernel) (pa_cons (pv 0) pa_nil)) pa_nil)) (pe_callB (c_lenK (K := K) rfl) (by rfl) z_len (by decide +kernel) (pa_cons (pv 0) pa_nil)) (nomark _))))))), ?_⟩
    walk_at "rr"
    refine isi_t (.base (.tup ha)) (b := true) (by decide +kernel) ?_
    walk_at "rr"
    refine k_iteD (fun z1 => ?_) fun z1 => ?_
    · rw [List.length_map] at z1
      walk_at "rr"
      by_cases z2 : ((zs.map V.str).length : Int) ≤ 3
      · refine k_sureN z2 ?_
        rw [List.length_map] at z2
        walk_at "rr"
        refine ⟨_, rfl, ⟨_, SqT.of ha⟩, fun D hD => ?_⟩
        refine lc_same (walk_tup (xs := zs.map V.str)) (fun _ => .bl true) (fun _ => true) (by rw [List.length_map]; omega) hD (fun H2 s2 => SqT.of (s2 _ _ ha)) (fun k x H2 H3 hk s2 y Q1 R1 q1 _ => ?_) fun H2 s2 hD1 => ?_
        · obtain ⟨rfl, y⟩ := y
          have e : (zs.map V.str)[k]? = some x := y
          rw [List.getElem?_map] at e
          obtain ⟨z, hz, rfl⟩ := Option.map_eq_some_iff.mp e
          walk_at "rr"
          refine ⟨rfl, k_yes ?_⟩
          walk_at "rr"
          exact ⟨z, rfl, hn z (List.mem_of_getElem? hz), fun H4 s4 => q1 rfl _ s4⟩
        · rw [range_all] at hD1
          walk_at "rr"
          refine ⟨D, (List.range (zs.map V.str).length).map fun _ => true, rfl, SqL.of (by rw [hD1, List.map_map]; rfl), ?_⟩
          rw [all_true]
          walk_at "rr"
          refine ⟨a, zs, rfl, .inr (SqT.of (s2 _ _ ha)), by omega, fun p c hp hc => ?_⟩
          walk_at "rr"
          refine ⟨p, _, _, rfl, upd_same, ?_⟩
          walk_at "rr"
          have := k _ (s2.trans (Same.upd (o := SetK P w p (TxtIn zs) c) hp))
          rw [show decide (1 ≤ zs.length ∧ zs.length ≤ 3 ∧ zs.Nodup) = decide (V.int c = V.int ((zs.map V.str).length : Nat)) from decide_eq_decide.mpr ?_] at this
          · exact this
          · rw [List.length_map]
            constructor
            · rintro ⟨_, _, nd⟩
              rw [hc.2.mpr nd]
            · intro e
              have e2 := V.int.inj e
              exact ⟨by omega, by omega, hc.2.mp (by omega)⟩
      · refine k_notN1 z2 ?_
        rw [List.length_map] at z2
        walk_at "rr"
        have := k _ (Same.refl _)
        rw [decide_eq_false fun h => z2 (by omega)] at this
        exact this
    · rw [List.length_map] at z1
      walk_at "rr"
      have := k _ (Same.refl _)
      rw [decide_eq_false fun h => z1 (by omega)] at this
      exact this
/-- a table of names, right or wrong -/
structure T.Names (t : T) : Prop where
  nm : isNameB t.nm = true
  c : t.cs.length ≤ 8 ∧ ∀ z ∈ t.cs, isNameB z = true
  i : t.is.length ≤ 8 ∧ ∀ z ∈ t.is, isNameB z = true
  k : t.ks.length ≤ 8 ∧ ∀ z ∈ t.ks, isNameB z = true
theorem T.Names.ok {t : T} (n : t.Names) : t.Ok ↔ ((1 ≤ t.cs.length ∧ t.cs.length ≤ 3 ∧ t.cs.Nodup) ∧ ((∀ z ∈ t.is, z ∈ t.cs) ∧ t.is.Pairwise sLt) ∧ ((∀ z ∈ t.ks, z ∈ t.cs) ∧ t.ks.Pairwise sLt)) :=
  ⟨fun o => ⟨⟨o.c1, o.c3, o.cd⟩, ⟨o.ii, o.ia⟩, o.ki, o.ka⟩, fun ⟨⟨a, b, c⟩, ⟨d, e⟩, f, g⟩ => ⟨n.nm, a, b, n.c.2, c, d, e, f, g⟩⟩
open Classical in
def spTableB : Sp := fun vs H Q _ => ∃ (a : Addr) (t : T), vs = [.ref a] ∧ TAt H a t ∧ t.Names ∧ ∀ H', Same H H' → Q (.bl (decide t.Ok)) H'
open Classical in
theorem ok_tableB {f : Addr} {fd : FuncData} (F : Fun K "is_table" "is_table" s_is_table f fd) (C_is_name : CalF P w K mg base "is_name" 1 ["thing"] spName) (C_is_tuple : CalF P w K mg base "is_tuple" 1 ["thing", "size"] spTuple)
    (C__are_columns : CalF P w K mg base "_are_columns" 2 ["thing"] spColsB) (C__are_some : CalF P w K mg base "_are_some" 2 ["thing", "columns"] spSomeB) :
    FnOk P w K mg base CX0 3 f fd ["thing"] spTableB := by
  have nd := sc_is_table.nd
  refine F.ok sc_is_table (fun vs H Q E h => ?_) (fun cdv A up s H vs Q E hr h => ?_)
  · obtain ⟨a, t, rfl, _⟩ := h
    rfl
  · obtain ⟨a, t, rfl, ht, nn, k⟩ := h
    obtain ⟨c, i, u, h1, h2, h3, h4⟩ := ht
    refine ⟨_, (pss_cons (ps_if (pt_not (pt_val (pe_cf C_is_tuple (hr.mono (by decide)) (pa_cons (pv 0) (pa_cons pe_int pa_nil))))) (pss_one (ps_ret pe_bl)) pss_nil)
        (pss_cons (ps_asg (pv 0) (pg_tup rfl (pgs_cons (pg_name (i := 1) nd rfl (Or.inl rfl)) (pgs_cons (pg_name (i := 2) nd rfl (Or.inl rfl)) (pgs_cons (pg_name (i := 3) nd rfl (Or.inl rfl)) (pgs_cons (pg_name (i := 4) nd rfl (Or.inl rfl)) pgs_nil))))))
        (pss_one (ps_ret (pe_and (pe_cf C_is_name (hr.mono (by decide)) (pa_cons (pv 1) pa_nil)) (pe_and (pe_cf C__are_columns (hr.mono (by decide)) (pa_cons (pv 2) pa_nil)) (pe_and (pe_cf C__are_some (hr.mono (by decide)) (pa_cons (pv 3) (pa_cons (pv 2) pa_nil))) (pe_one (pe_cf C__are_some (hr.mono (by decide)) (pa_cons (pv 4) (pa_cons (pv 2) pa_nil))))))))))), ?_⟩
    walk_at "rr"
    refine ⟨a, _, rfl, h1, ?_⟩
    walk_at "rr"
    refine k_gTup (SqT.of h1) rfl ?_
    walk_at "rr"
    refine ⟨t.nm, rfl, nn.nm, fun H1 s1 => ?_⟩
    walk_at "rr"
    have l1 := nn.c.1
    have l2 := nn.i.1
    have l3 := nn.k.1
    refine ⟨c, t.cs, rfl, s1 _ _ h2, by omega, nn.c.2, fun H2 s2 => ?_⟩
    have bad : ¬ t.Ok → ∀ H', Same H H' → Q (.bl false) H' := fun h H' s' => by
      have := k H' s'
      rw [decide_eq_false h] at this
      exact this
    by_cases q1 : 1 ≤ t.cs.length ∧ t.cs.length ≤ 3 ∧ t.cs.Nodup
    · rw [decide_eq_true q1]
      walk_at "rr"
      refine ⟨i, c, t.is, t.cs, rfl, s2 _ _ (s1 _ _ h3), s2 _ _ (s1 _ _ h2), by omega, fun H3 s3 => ?_⟩
      by_cases q2 : (∀ z ∈ t.is, z ∈ t.cs) ∧ t.is.Pairwise sLt
      · rw [decide_eq_true q2]
        walk_at "rr"
        refine ⟨u, c, t.ks, t.cs, rfl, s3 _ _ (s2 _ _ (s1 _ _ h4)), s3 _ _ (s2 _ _ (s1 _ _ h2)), by omega, fun H4 s4 => ?_⟩
        have := k H4 (((s1.trans s2).trans s3).trans s4)
        by_cases q3 : (∀ z ∈ t.ks, z ∈ t.cs) ∧ t.ks.Pairwise sLt
        · rw [decide_eq_true (nn.ok.mpr ⟨q1, q2, q3⟩)] at this
          rw [decide_eq_true q3]
          exact this
        · rw [decide_eq_false fun o => q3 (nn.ok.mp o).2.2] at this
          rw [decide_eq_false q3]
          exact this
      · rw [decide_eq_false q2]
        walk_at "rr"
        exact bad (fun o => q2 (nn.ok.mp o).2.1) _ ((s1.trans s2).trans s3)
    · rw [decide_eq_false q1]
      walk_at "rr"
      exact bad (fun o => q1 (nn.ok.mp o).1) _ (s1.trans s2)
end
end K03

set_option Elab.async false
set_option maxRecDepth 100000
set_option maxHeartbeats 4000000
set_option linter.unusedVariables false
namespace K03
open PySem PySem.Spec PyProof.Rows L2 Own
-- steps
local macro_rules | `(tactic| walk_at "lk") => `(tactic| first
  | assumption | exact upd_same
  | ((with_reducible refine' lk_new ?e (by assumption)); (case e => walk_at "lk"))
  | ((with_reducible refine' lk_ext (by assumption) ?e); (case e => walk_at "lk"))
  | ((with_reducible refine' lk_same (by assumption) ?e); (case e => walk_at "lk")))
local macro_rules | `(tactic| walk_at "sq") => `(tactic| first | assumption | exact SqL.of (by walk_at "lk") | exact SqT.of (by walk_at "lk"))
local macro_rules | `(tactic| walk_at "r1") => `(tactic| first
  | with_reducible refine k_seq ?_ | with_reducible refine k_asg ?_ | with_reducible refine k_ret ?_ | with_reducible refine k_drop ?_ | with_reducible refine k_next ?_ | with_reducible refine k_ifS ?_
  | ((with_reducible refine' k_var ?e ?_); (case e => exact rfl)) | with_reducible refine k_c ?_ | with_reducible refine k_op ?_ | with_reducible refine k_un ?_ | with_reducible refine k_test ?_ | with_reducible refine k_B ?_
  | with_reducible refine k_and ?_ | with_reducible refine k_or ?_ | with_reducible refine k_not ?_ | with_reducible refine k_andV ?_ | with_reducible refine k_orV ?_ | with_reducible refine k_notV ?_ | with_reducible refine k_if ?_
  | with_reducible refine k_nil ?_ | with_reducible refine k_cons ?_ | with_reducible refine k_tup ?_ | with_reducible refine k_lst ?_ | with_reducible refine k_call ?_ | with_reducible refine k_cb ?_ | with_reducible refine k_ck ?_
  | with_reducible refine k_par ?_ | with_reducible refine k_par1 ?_ | with_reducible refine k_tr ?_ | with_reducible refine k_rI0 ?_ | with_reducible refine k_rU ?_
  | with_reducible refine k_gN ?_ | with_reducible refine k_gS ?_ | with_reducible refine k_gNil ?_ | with_reducible refine k_gCons ?_ | with_reducible refine k_bm0 ?_ | with_reducible refine k_bm ?_
  | with_reducible refine k_for ?_ | with_reducible refine k_iL ?_ | with_reducible refine k_iT ?_ | with_reducible refine k_iR1 ?_ | ((with_reducible refine k_iR1i ?e ?_); (case e => first | decide | exact ⟨by omega, by omega⟩))
  | with_reducible refine k_max ?_ | with_reducible refine k_isB ?_ | with_reducible refine k_sl ?_ | with_reducible refine k_noP ?_ | with_reducible refine k_part ?_ | with_reducible refine k_partI ?_ | with_reducible refine k_revL ?_
  | ((with_reducible refine' k_ixqT ?e ?f ?_); (case e => walk_at "sq"); (case f => first | exact rfl | exact atI_head))
  | ((with_reducible refine' k_ixqL ?e ?f ?_); (case e => walk_at "sq"); (case f => first | exact rfl | exact atI_head))
  | ((with_reducible refine' k_lenL ?e ?_); (case e => walk_at "sq"))
  | ((with_reducible refine' k_lenT ?e ?_); (case e => walk_at "sq"))
  | ((with_reducible refine' k_ixL ?e ?f ?_); (case e => walk_at "sq"); (case f => first | exact rfl | exact atI_head))
  | ((with_reducible refine' k_ixT ?e ?f ?_); (case e => walk_at "sq"); (case f => first | exact rfl | exact atI_head))
  | ((with_reducible refine k_eq ?e ?_); (case e => exact rfl)) | ((with_reducible refine k_ne ?e ?_); (case e => exact rfl))
  | ((with_reducible refine k_rI ?e ?_); (case e => first | assumption | omega | decide | exact ⟨by omega, by omega⟩ | exact .inl ⟨by omega, by omega⟩ | exact .inr ⟨by omega, by omega⟩)))
local macro_rules | `(tactic| walk_at "rd") => `(tactic| repeat walk_at "r1")
local macro_rules | `(tactic| walk_at "r2") => `(tactic| first
  | walk_at "r1"
  | with_reducible refine k_ifTt ?_ | with_reducible refine k_ifFf ?_ | with_reducible refine k_ifNt ?_ | with_reducible refine k_ifNf ?_
  | with_reducible refine k_makeR ?_ | with_reducible refine k_tJ ?_ | with_reducible refine k_tJc ?_ | with_reducible refine k_tJn ?_ | with_reducible refine k_fmt ?_ | with_reducible refine k_lc ?_ | with_reducible refine k_din ?_ | with_reducible refine k_fld ?_ | with_reducible refine k_dget ?_
  | with_reducible refine k_dput ?_
  | with_reducible refine k_isNv ?_
  | with_reducible refine k_notNv ?_
  | with_reducible refine k_str ?_
  | with_reducible refine k_enumT ?_
  | with_reducible refine k_zipA ?_
  | with_reducible refine k_chain ?_
  | ((with_reducible refine' k_dgS ?e dkv_cells ?_); (case e => walk_at "lk"))
  | ((with_reducible refine' k_dgS ?e dkv_mixed ?_); (case e => walk_at "lk"))
  | ((with_reducible refine' k_dgS ?e dkv_turn ?_); (case e => walk_at "lk")))
local macro_rules | `(tactic| walk_at "rr") => `(tactic| repeat walk_at "r2")
-- steps end
section
variable {P : Program} {w : World} {K : PySem.W.Frag} {mg : Str → Option Value} {base : Heap} {C N fN : Addr} {fdN : FuncData}
abbrev s_InvalidSchema___init__ : Stmt := inClass (top 2) 0
theorem sc_InvalidSchema___init__ : FnScope ["self", "part"] ["self", "part"] (defScope s_InvalidSchema___init__) :=
  ⟨rfl, rfl, rfl, by decide +kernel, rfl, by decide +kernel, by decide +kernel⟩
/-! ### InvalidSchema -/
def spBad (N : Addr) : Sp := fun vs H Q _ => ∃ (a : Addr) (x : V), vs = [.ref a, x] ∧ H a = some (exo a N none) ∧ ∀ d, H d = none → d ≠ a → Q .non (upd (upd H d (exd d [(("part" : Str), x)])) a (exo a N (some d)))
structure BadTxt (K : PySem.W.Frag) (N : Addr) : Prop where
  ox : OexC K N
  n1 : PySem.W.findIn K (.ref N) "part" = some none
theorem ok_bad (F : Fun K "__init__" "InvalidSchema.__init__" s_InvalidSchema___init__ fN fdN) (T : BadTxt K N) : FnOk P w K mg base CX0 1 fN fdN ["self", "part"] (spBad N) := by
  refine F.ok sc_InvalidSchema___init__ (fun vs H Q E h => ?_) (fun cdv A up s H vs Q E hr h => ?_)
  · obtain ⟨a, x, rfl, _⟩ := h
    rfl
  · obtain ⟨a, x, rfl, ha, k⟩ := h
    refine ⟨_, pss_one (ps_ost (pv 0) (pv 1)), ?_⟩
    exact ⟨_, rfl, _, rfl, a, N, rfl, T.ox, T.n1, .inl ⟨ha, fun d hd ne => k d hd ne⟩⟩
theorem bad_made {H : Hp} {a d : Addr} {x : V} (ha : H a = none) (hd : H d = none) (ne : d ≠ a) :
    Same H (upd (del (upd (upd (upd H a (exo a N none)) d (exd d [(("part" : Str), x)])) a (exo a N (some d))) a) d (.xd [(("part" : Str), x)])) := fun b o e => by
  have na := ne_of_none e ha
  have nd := ne_of_none e hd
  rw [upd_ne nd, del_ne na, upd_ne na, upd_ne nd, upd_ne na]
  exact e
structure Bads (P : Program) (w : World) (K : PySem.W.Frag) (mg : Str → Option Value) (base : Heap) (N : Addr) : Prop where
  nt : BadTxt K N
  gN : mg "InvalidSchema" = some (.ref N)
  ni : ∃ f fd, PySem.W.findIn K (.ref N) "__init__" = some (some (.ref f)) ∧ PySem.W.typeIn K (.ref f) = some (.type "function") ∧ FnOk P w K mg base CX0 1 f fd ["self", "part"] (spBad N) ∧ Binds K fd ["self", "part"] []
/-! ### Schema, told which part is wrong -/
def Bad (ts : List AT) (i : Nat) : Prop := ∃ x, ts[i]? = some x ∧ (¬ x.2.Ok ∨ x.2.nm ∈ namesOf (ts.take i))
def spInitB (C N : Addr) : Sp := fun vs H Q E => ∃ (p dx u : Addr) (ts : List AT), vs = [.ref p, .ref u] ∧ H p = some (.ins C dx []) ∧ H u = some (.tup (refsOf ts)) ∧ (∀ x ∈ ts, TAt H x.1 x.2 ∧ x.2.Names) ∧ ts.length ≤ 5 ∧
  ((∀ i, ¬ Bad ts i) → ∀ H' d t zs, zs.Perm ts → (namesOf zs).Pairwise sLt → H' p = some (.ins C dx (flds d t)) → H' d = some (.dK (kvsOf ts)) → H' t = some (.tup (refsOf zs)) → (∀ a o, a ≠ p → H a = some o → H' a = some o) → Q .non H') ∧
  (∀ i, Bad ts i → (∀ j, j < i → ¬ Bad ts j) → ∀ d H', Same H H' → H d = none → H' d = some (.xd [(("part" : Str), V.int i)]) → E (.ref N) (some d) H')
open Classical in
theorem ok_initB {f : Addr} {fd : FuncData} (F : Fun K "__init__" "Schema.__init__" s_Schema___init__ f fd) (T : Txt K C) (B : Bads P w K mg base N) (C_is_table : CalF P w K mg base "is_table" 3 ["thing"] spTableB)
    (z_enumerate : mg "enumerate" = none) (z_sorted : mg "sorted" = none) (z_tuple : mg "tuple" = none)
    (hb : ∀ (kV doc pm : Value) (an : Option Addr) (cdv ct : Value) (us rest : List Value), us.length = 1 →
      bindArgs (PySem.W.fnOf "__init__" "Schema.__init__" (defArgs s_Schema___init__) (defBody s_Schema___init__) (defScope s_Schema___init__) .none kV doc pm an cdv ct) ⟨us ++ rest, []⟩ = (newTuple rest >>= fun t => pure ((["self"] : List Str).zip us ++ [(("tables" : Str), t)]))) :
    FnR P w K mg base (L2.CX P w) 4 f (fun vs H Q E => ∃ ws rest, vs = ws ++ rest ∧ ws.length = 1 ∧ rest.length ≤ sizeLine ∧ ∀ p, H p = Option.none → spInitB C N (ws ++ [V.ref p]) (upd H p (.tup rest)) Q E) := by
  obtain ⟨fn, fdn, j1, j2, FN, bN⟩ := B.ni
  obtain ⟨oc, od, kV, doc, pm, an, cdv, ct, osl, rfl, lk, hcd⟩ := F.ex
  refine StX.fn_star (ps := ["self"]) (pv := "tables") lk hcd sc_Schema___init__ StX.cxUp (fun us rest hl => hb kV doc pm an cdv ct us rest hl) (fun A up s H vs Q E hr h => ?_)
  obtain ⟨p, dx, u, ts, rfl, hp, hU, ht, hl, k1, k2⟩ := h
  have nd := sc_Schema___init__.nd
  have hu := hu_of hr
  refine ⟨_, (pss_cons (ps_set (i := 2) nd rfl (Or.inr rfl) pe_dnewK)
        (pss_cons (ps_for PassesOwn.leaving rfl (pi_enumT (by rfl) z_enumerate (pa_cons (pv 1) pa_nil)) (pg_tup rfl (pgs_cons (pg_name (i := 3) nd rfl (Or.inl rfl)) (pgs_cons (pg_name (i := 4) nd rfl (Or.inl rfl)) pgs_nil)))
          (pss_cons (ps_if (PW.pt (pw_or (pt_not (pt_val (pe_cf C_is_table (hr.mono (by decide)) (pa_cons (pv 4) pa_nil)))) (pw_or1 (pt_cmp (pc_din hu (pe_ix ix_tup (pv 4) pe_int (fun _ _ => rfl)) (pv 2))))))
            (pss_one (ps_raise rfl (takes_of rfl rfl rfl rfl) (pmk_oex B.nt.ox j1 j2 FN (hr.mono (by decide)) bN .nil pass0 (by rfl) B.gN (pa_cons (pv 3) pa_nil)))) pss_nil)
          (pss_one (ps_dput hu (pv 2) (pe_ix ix_tup (pv 4) pe_int (fun _ _ => rfl)) (pv 4) rfl))))
        (PSs.nox (pss_cons (ps_fld (pv 0) (pv 2) rfl)
        (pss_one (ps_fld (pv 0) (pe_callTy call_tuple_of (by rfl) z_tuple (by decide +kernel) (pa_cons (pe_lc (own := [("name", 5)]) (g := (gName 5)) (tt := tYes) (te := (tDGet (tVar 2) (tVar 5))) (by rfl) nd (pi_list (pe_callB (L2.call_sortedD rfl) (by rfl) z_sorted (by decide +kernel) (pa_cons (pv 2) pa_nil))) (blkOk_by (own := [("name", 5)]) (N := ["self", "tables", "named", "at", "table", "name"]) (sc := defScope s_Schema___init__) (by decide +kernel)) (fun _ _ _ _ _ => by exact (pg_name (i := 5) nd rfl (Or.inl rfl))) (fun _ _ _ _ _ => by exact pts_nil) (fun _ _ _ _ _ => by exact (pe_dget hu (pv 2) (pv 5) (fun _ _ => rfl)))) pa_nil)) rfl)))))), ?_⟩
  walk_at "rr"
  refine k_dnewK fun d hd => ?_
  walk_at "rr"
  let Pv : Nat → L2.St → Hp → Prop := fun i σ H' => ∃ o1 o2, σ = [some (.ref p), some (.ref u), some (.ref d), o1, o2, none] ∧ Same H H' ∧ H' d = some (.dK (kvsOf (ts.take i))) ∧ (∀ j, j < i → ¬ Bad ts j) ∧ (namesOf (ts.take i)).Nodup
  have lr : (refsOf ts).length = ts.length := List.length_map ..
  refine ⟨u, refsOf ts, rfl, SqT.of (Same.upd hd _ _ hU), for_it (walk_enumT (xs := refsOf ts)) Pv ⟨none, none, rfl, Same.upd hd, upd_same, (fun j z => absurd z (Nat.not_lt_zero _)), List.nodup_nil⟩ (fun i σ H' _ h => ?_) (fun i x σ H' H'' hi h y => ?_) (fun σ H' h => ?_)⟩
  · obtain ⟨_, _, _, s1, _⟩ := h
    exact SqT.of (s1 _ _ hU)
  · obtain ⟨o1, o2, rfl, s1, hk, nb, nn⟩ := h
    obtain ⟨t1, x1, x2, rfl, ht1, rfl, e1, e2⟩ := y
    have e1 : V.int i = x1 := Option.some.inj e1
    have e2 : (refsOf ts)[i]? = some x2 := e2
    unfold refsOf at e2
    rw [List.getElem?_map] at e2
    obtain ⟨x, hx, rfl⟩ := Option.map_eq_some_iff.mp e2
    subst e1
    refine k_gTup (SqT.of upd_same) rfl ?_
    walk_at "rr"
    obtain ⟨tx, nx⟩ := ht x (List.mem_of_getElem? hx)
    refine ⟨x.1, x.2, rfl, (tx.same s1).same (Same.upd ht1), nx, fun H2 s2 => ?_⟩
    have s02 : Same H H2 := (s1.trans (Same.upd ht1)).trans s2
    have out : Bad ts i → tMkO N (spBad N) [] (tCons (tVar 3) tNil) [some (.ref p), some (.ref u), some (.ref d), some (.int i), some (.ref x.1), none] H2 fun cls d H' => E cls d H' := fun bi => by
      refine ⟨_, rfl, (by show 1 ≤ 1000; decide), fun a ha => ?_⟩
      refine ⟨a, _, rfl, upd_same, fun b hb nb2 => ?_⟩
      have hb' : H2 b = none := by rw [upd_ne nb2] at hb; exact hb
      refine ⟨rfl, b, [(("part" : Str), V.int i)], upd_same, ?_, hb', ?_⟩
      · rw [upd_ne nb2, upd_same]
      · exact k2 i bi nb b _ (s02.trans (bad_made ha hb' nb2)) (L2.Same.free s02 hb') upd_same
    by_cases ok : x.2.Ok
    · rw [decide_eq_true ok]
      walk_at "rr"
      have hk2 := s2 _ _ (Same.upd ht1 _ _ hk)
      have hi2 : i < ts.length := (List.getElem?_eq_some_iff.mp hx).1
      refine k_ixT (SqT.of (s2 _ _ (Same.upd ht1 _ _ (s1 _ _ tx.choose_spec.choose_spec.choose_spec.1)))) rfl ?_
      walk_at "rr"
      refine ⟨d, _, rfl, DGet.k (k := Sum.inr x.2.nm) hk2, _, rfl, ?_⟩
      rw [kvs_has rfl]
      by_cases fresh : x.2.nm ∈ namesOf (ts.take i)
      · rw [decide_eq_true fresh]
        walk_at "rr"
        exact out ⟨x, hx, .inr fresh⟩
      · rw [decide_eq_false fresh]
        walk_at "rr"
        refine k_ixT (SqT.of (s2 _ _ (Same.upd ht1 _ _ (s1 _ _ tx.choose_spec.choose_spec.choose_spec.1)))) rfl ?_
        refine k_dpS hk2 (by unfold kvsOf; rw [List.length_map, List.length_take]; omega) ?_
        rw [kvs_put fresh]
        have tk : ts.take (i + 1) = ts.take i ++ [x] := by
          rw [List.take_add_one, hx]
          rfl
        refine ⟨_, _, rfl, same_off s02 hd, by rw [upd_same, tk], fun j hj => ?_, ?_⟩
        · by_cases e : j = i
          · subst e
            rintro ⟨y, hy, b⟩
            rw [hx] at hy
            obtain rfl := Option.some.inj hy
            exact b.elim (fun z => z ok) fresh
          · exact nb j (by omega)
        · rw [tk]
          unfold namesOf at nn fresh ⊢
          rw [List.map_append]
          refine List.nodup_append.mpr ⟨nn, by simp, fun a ha b hb e => ?_⟩
          rw [List.map_singleton, List.mem_singleton] at hb
          rw [e, hb] at ha
          exact fresh ha
    · rw [decide_eq_false ok]
      walk_at "rr"
      exact out ⟨x, hx, .inl ok⟩
  · obtain ⟨o1, o2, rfl, s1, hk, nb, hn⟩ := h
    rw [lr, List.take_length] at hk hn
    rw [lr] at nb
    have good : ∀ i, ¬ Bad ts i := fun i b => by
      obtain ⟨y, hy, b2⟩ := b
      exact nb i (List.getElem?_eq_some_iff.mp hy).1 ⟨y, hy, b2⟩
    walk_at "rr"
    have hp1 := s1 _ _ hp
    have npd : p ≠ d := ne_of_none hp hd
    refine ⟨p, C, dx, [], rfl, hp1, T.cl, T.nN, by decide, ?_⟩
    walk_at "rr"
    walk_at "rr"
    let H3 := upd H' p (.ins C dx (putF "_named" (.ref d) []))
    have hk3 : H3 d = some (.dK (kvsOf ts)) := (upd_ne npd.symm).trans hk
    refine ⟨d, kvsOf ts, namesOf ts, rfl, .inl hk3, by unfold kvsOf namesOf; rw [List.map_map, List.map_map]; rfl, by unfold namesOf; rw [List.length_map]; omega, fun ys q hp2 hs hq => ?_⟩
    obtain ⟨zs, pz, rfl⟩ := perm_map hp2 ts rfl
    have lz := pz.length_eq
    refine ⟨_, rfl, ⟨_, SqL.of upd_same⟩, fun D hD => ?_⟩
    refine lc_same (walk_list (xs := (zs.map fun x => x.2.nm).map V.str)) (fun i => match zs[i]? with | some x => .ref x.1 | none => .non) (fun _ => true) (by rw [List.length_map, List.length_map]; omega) hD (fun H5 s5 => SqL.of (s5 _ _ upd_same)) (fun k x H5 H6 hk5 s5 y Q1 R1 q1 _ => ?_) fun H5 s5 hD1 => ?_
    · obtain ⟨rfl, y⟩ := y
      have e : ((zs.map fun x => x.2.nm).map V.str)[k]? = some x := y
      rw [List.map_map, List.getElem?_map] at e
      obtain ⟨z, hz, rfl⟩ := Option.map_eq_some_iff.mp e
      rw [hz] at q1
      walk_at "rr"
      refine ⟨rfl, k_yes ?_⟩
      walk_at "rr"
      refine k_dgS (s5 _ _ (Same.upd hq _ _ hk3)) (kvs_get hn (pz.mem_iff.mp (List.mem_of_getElem? hz))) ?_
      exact q1 rfl _ (Same.refl _)
    · rw [range_all, List.length_map, List.length_map, range_get zs _ (fun x => V.ref x.1) (fun k x e => by rw [e])] at hD1
      walk_at "rr"
      refine ⟨D, refsOf zs, rfl, .inl ⟨SqL.of hD1, fun l hl2 => ?_⟩⟩
      walk_at "rr"
      have hp3 : H3 p = some (.ins C dx (putF "_named" (.ref d) [])) := upd_same
      have g1 : ∀ a o, a ≠ p → H a = some o → (upd H5 l (.tup (refsOf zs))) a = some o := fun a o na e => Same.upd hl2 _ _ (s5 _ _ (Same.upd hq _ _ ((upd_ne na).trans (s1 _ _ e))))
      have hp5 : (upd H5 l (.tup (refsOf zs))) p = some (.ins C dx (putF "_named" (.ref d) [])) := Same.upd hl2 _ _ (s5 _ _ (Same.upd hq _ _ hp3))
      have hd5 : (upd H5 l (.tup (refsOf zs))) d = some (.dK (kvsOf ts)) := Same.upd hl2 _ _ (s5 _ _ (Same.upd hq _ _ hk3))
      refine ⟨p, C, dx, _, rfl, hp5, T.cl, T.nT, (by show 1 < 1000; decide), ?_⟩
      have npl : p ≠ l := fun z => by
        rw [← z] at hl2
        have := s5 _ _ (Same.upd hq _ _ hp3)
        rw [this] at hl2
        cases hl2
      have hl5 : (upd H5 l (.tup (refsOf zs))) l = some (.tup (refsOf zs)) := upd_same
      generalize upd H5 l (.tup (refsOf zs)) = H6 at g1 hp5 hd5 hl5 ⊢
      have nat : ∀ {a : Addr} {o : HO}, H a = some o → (∀ C dx fs, o ≠ .ins C dx fs) → a ≠ p := fun e n z => by
        rw [z, hp] at e
        exact n _ _ _ (Option.some.inj e).symm
      exact k1 good _ d l zs pz (ris2 hs (by
          have : (zs.map fun x => x.2.nm).Perm (namesOf ts) := pz.map _
          exact this.nodup_iff.mpr hn)) upd_same ((upd_ne npd.symm).trans hd5) ((upd_ne npl.symm).trans hl5) fun a o na e => (upd_ne na).trans (g1 a o na e)
end
end K03

set_option Elab.async false
set_option maxRecDepth 100000
set_option maxHeartbeats 4000000
set_option linter.unusedVariables false
namespace K03
open PySem PySem.Spec PyProof.Rows L2 Own
-- steps
local macro_rules | `(tactic| walk_at "lk") => `(tactic| first
  | assumption | exact upd_same
  | ((with_reducible refine' lk_new ?e (by assumption)); (case e => walk_at "lk"))
  | ((with_reducible refine' lk_ext (by assumption) ?e); (case e => walk_at "lk"))
  | ((with_reducible refine' lk_same (by assumption) ?e); (case e => walk_at "lk")))
local macro_rules | `(tactic| walk_at "sq") => `(tactic| first | assumption | exact SqL.of (by walk_at "lk") | exact SqT.of (by walk_at "lk"))
local macro_rules | `(tactic| walk_at "r1") => `(tactic| first
  | with_reducible refine k_seq ?_ | with_reducible refine k_asg ?_ | with_reducible refine k_ret ?_ | with_reducible refine k_drop ?_ | with_reducible refine k_next ?_ | with_reducible refine k_ifS ?_
  | ((with_reducible refine' k_var ?e ?_); (case e => exact rfl)) | with_reducible refine k_c ?_ | with_reducible refine k_op ?_ | with_reducible refine k_un ?_ | with_reducible refine k_test ?_ | with_reducible refine k_B ?_
  | with_reducible refine k_and ?_ | with_reducible refine k_or ?_ | with_reducible refine k_not ?_ | with_reducible refine k_andV ?_ | with_reducible refine k_orV ?_ | with_reducible refine k_notV ?_ | with_reducible refine k_if ?_
  | with_reducible refine k_nil ?_ | with_reducible refine k_cons ?_ | with_reducible refine k_tup ?_ | with_reducible refine k_lst ?_ | with_reducible refine k_call ?_ | with_reducible refine k_cb ?_ | with_reducible refine k_ck ?_
  | with_reducible refine k_par ?_ | with_reducible refine k_par1 ?_ | with_reducible refine k_tr ?_ | with_reducible refine k_rI0 ?_ | with_reducible refine k_rU ?_
  | with_reducible refine k_gN ?_ | with_reducible refine k_gS ?_ | with_reducible refine k_gNil ?_ | with_reducible refine k_gCons ?_ | with_reducible refine k_bm0 ?_ | with_reducible refine k_bm ?_
  | with_reducible refine k_for ?_ | with_reducible refine k_iL ?_ | with_reducible refine k_iT ?_ | with_reducible refine k_iR1 ?_ | ((with_reducible refine k_iR1i ?e ?_); (case e => first | decide | exact ⟨by omega, by omega⟩))
  | with_reducible refine k_max ?_ | with_reducible refine k_isB ?_ | with_reducible refine k_sl ?_ | with_reducible refine k_noP ?_ | with_reducible refine k_part ?_ | with_reducible refine k_partI ?_ | with_reducible refine k_revL ?_
  | ((with_reducible refine' k_ixqT ?e ?f ?_); (case e => walk_at "sq"); (case f => first | exact rfl | exact atI_head))
  | ((with_reducible refine' k_ixqL ?e ?f ?_); (case e => walk_at "sq"); (case f => first | exact rfl | exact atI_head))
  | ((with_reducible refine' k_lenL ?e ?_); (case e => walk_at "sq"))
  | ((with_reducible refine' k_lenT ?e ?_); (case e => walk_at "sq"))
  | ((with_reducible refine' k_ixL ?e ?f ?_); (case e => walk_at "sq"); (case f => first | exact rfl | exact atI_head))
  | ((with_reducible refine' k_ixT ?e ?f ?_); (case e => walk_at "sq"); (case f => first | exact rfl | exact atI_head))
  | ((with_reducible refine k_eq ?e ?_); (case e => exact rfl)) | ((with_reducible refine k_ne ?e ?_); (case e => exact rfl))
  | ((with_reducible refine k_rI ?e ?_); (case e => first | assumption | omega | decide | exact ⟨by omega, by omega⟩ | exact .inl ⟨by omega, by omega⟩ | exact .inr ⟨by omega, by omega⟩)))
local macro_rules | `(tactic| walk_at "rd") => `(tactic| repeat walk_at "r1")
local macro_rules | `(tactic| walk_at "r2") => `(tactic| first
  | walk_at "r1"
  | with_reducible refine k_ifTt ?_ | with_reducible refine k_ifFf ?_ | with_reducible refine k_ifNt ?_ | with_reducible refine k_ifNf ?_
  | with_reducible refine k_makeR ?_ | with_reducible refine k_tJ ?_ | with_reducible refine k_tJc ?_ | with_reducible refine k_tJn ?_ | with_reducible refine k_fmt ?_ | with_reducible refine k_lc ?_ | with_reducible refine k_din ?_ | with_reducible refine k_fld ?_ | with_reducible refine k_dget ?_
  | with_reducible refine k_dput ?_
  | with_reducible refine k_isNv ?_
  | with_reducible refine k_notNv ?_
  | with_reducible refine k_str ?_
  | with_reducible refine k_enumT ?_
  | with_reducible refine k_zipA ?_
  | with_reducible refine k_chain ?_
  | ((with_reducible refine' k_dgS ?e dkv_cells ?_); (case e => walk_at "lk"))
  | ((with_reducible refine' k_dgS ?e dkv_mixed ?_); (case e => walk_at "lk"))
  | ((with_reducible refine' k_dgS ?e dkv_turn ?_); (case e => walk_at "lk")))
local macro_rules | `(tactic| walk_at "rr") => `(tactic| repeat walk_at "r2")
-- steps end
section
variable {P : Program} {w : World} {K : PySem.W.Frag} {mg : Str → Option Value} {base : Heap}
abbrev s_lines_of : Stmt := top 11
theorem sc_lines_of : FnScope ["text"] ["text"] (defScope s_lines_of) :=
  ⟨rfl, rfl, rfl, by decide +kernel, rfl, by decide +kernel, by decide +kernel⟩
def linesOf (z : Str) : List Str := if z = Str.ofString "" then [] else Txt.split z (Str.ofString "\n")
def spLines : Sp := fun vs H Q _ => ∃ z : Str, vs = [.str z] ∧ z.length ≤ 100000 ∧ ∀ l H', Same H H' → H l = none → H' l = some (.lst ((linesOf z).map V.str)) → Q (.ref l) H'
theorem ok_lines {f : Addr} {fd : FuncData} (F : Fun K "lines_of" "lines_of" s_lines_of f fd) (z_isinstance : mg "isinstance" = none) (z_str : mg "str" = none) : FnOk P w K mg base CX0 1 f fd ["text"] spLines := by
  have nd := sc_lines_of.nd
  refine F.ok sc_lines_of (fun vs H Q E h => ?_) (fun cdv A up s H vs Q E hr h => ?_)
  · obtain ⟨z, rfl, _⟩ := h
    rfl
  · obtain ⟨z, rfl, hz, k⟩ := h
    refine ⟨_, (pss_cons (ps_if (pt_not (pt_val (pe_callB call_isi (by rfl) z_isinstance (by decide +kernel) (pa_cons (pv 0) (pa_cons (pe_bltn (v := .ty "str") (by rfl) z_str PyProof.Rows.boot_str rfl) pa_nil))))) (pss_one ps_nope) pss_nil)
        (pss_one (ps_ret (pe_ifExp (pt_cmpR op_eq (pv 0) pe_str (nomark _)) (pe_lst pa_nil) (pe_split (pv 0) pe_str))))), ?_⟩
    walk_at "rr"
    refine isi_t (.base (.str z)) (b := true) (by decide +kernel) ?_
    walk_at "rr"
    by_cases e : z = Str.ofString ""
    · rw [decide_eq_true (show V.str z = V.str (Str.ofString "") from by rw [e])]
      walk_at "rr"
      refine ⟨k_sz rfl, fun l hl => ?_⟩
      refine k l _ (Same.upd hl) hl ?_
      unfold linesOf
      rw [if_pos e]
      exact upd_same
    · rw [decide_eq_false fun q => e (V.str.inj q)]
      walk_at "rr"
      refine ⟨_, rfl, ⟨_, rfl⟩, z, _, rfl, rfl, by decide +kernel, Nat.le_trans (Nat.add_le_add_right hz 2) (by decide), fun l hl => ?_⟩
      refine k l _ (Same.upd hl) hl ?_
      unfold linesOf
      rw [if_neg e]
      exact upd_same
end
end K03

set_option Elab.async false
set_option maxRecDepth 100000
set_option linter.unusedVariables false
/-! xs[lo:hi:step] of lists -/
namespace Own
open PySem PySem.Spec PyProof.Rows L2
def pickV {α : Type} (xs : List α) (lo hi st : Option Int) : List α := (sliceRange (sliceBounds lo hi st xs.length).fst (sliceBounds lo hi st xs.length).snd.fst (sliceBounds lo hi st xs.length).snd.snd).filterMap fun i => xs[i]?
theorem pick_vals {xs : List V} {its : List Value} (h : Vals xs its) : ∀ is : List Nat, Vals (is.filterMap fun i => xs[i]?) (is.filterMap fun i => its[i]?)
  | [] => .nil
  | i :: is => by
    have ih := pick_vals h is
    by_cases hi : i < xs.length
    · have e1 : xs[i]? = some xs[i] := List.getElem?_eq_getElem hi
      obtain ⟨u, hu, ru⟩ := h.get e1
      rw [List.filterMap_cons_some e1, List.filterMap_cons_some hu]
      exact .cons ru ih
    · have e1 : xs[i]? = none := List.getElem?_eq_none (by omega)
      have e2 : its[i]? = none := List.getElem?_eq_none (by rw [← h.length]; omega)
      rw [List.filterMap_cons_none e1, List.filterMap_cons_none e2]
      exact ih
def tSl3 (K : PySem.W.Frag) (te : TE) (tl th ts : TO) : TE := fun σ H Q => te σ H fun x H1 => tl σ H1 fun l H2 => th σ H2 fun u H3 => ts σ H3 fun st H4 => ∃ a xs, x = V.ref a ∧ SqL K H4 a xs ∧ st ≠ some 0 ∧ (pickV xs l u st).length ≤ sizeLine ∧ ∀ p, H4 p = none → Q (.ref p) (upd H4 p (.lst (pickV xs l u st)))
theorem pe_slice3 {X : Cx} {e : Expr} {te : TE} {lo hi : Option Expr} {sx : Expr} {tl th ts : TO} {pos p2 : Pos} (he : PE X e te) (hl : PO X lo tl) (hu : PO X hi th) (hs : PO X (some sx) ts) : PE X (e.Subscript (Expr.Slice lo hi (some sx) p2) pos) (tSl3 X.K te tl th ts) := by
  constructor
  intro pins s σ H Q I h
  refine Subscript_ (thn (he.run pins s σ H _ I h) fun v s1 ⟨x, H1, I1, r1, q1⟩ => ?_)
  refine wpAny_Slice (thn (hl.run pins s1 σ H1 _ I1 q1) fun vl s2 ⟨l, H2, I2, pl, q2⟩ => ?_)
  refine thn (hu.run pins s2 σ H2 _ I2 q2) fun vu s3 ⟨u, H3, I3, pu, q3⟩ => ?_
  refine thn (hs.run pins s3 σ H3 _ I3 q3) fun vs s4 ⟨st, H4, I4, ps, q4⟩ => ?_
  obtain ⟨a, xs, rfl, hx, h0, hz, q⟩ := q4
  obtain rfl : v = Value.ref a := r1
  have I5 := Inv.kept (t' := s4.toks) I4 fun b ob q => Heap.get?_push_of_some { cls := Value.type "slice", data := Data.fields #[vl, vu, vs] } q
  obtain ⟨its, r, ht, hz2⟩ := I5.list hx
  have hlen := r.length
  have nl : s4.heap.objs.size + 1 = (s4.heap.push { cls := Value.type "slice", data := Data.fields #[vl, vu, vs] }).objs.size := by simp [Heap.push]
  refine tail_any (PlainL.isList ht).typeIs slot_list_getitem.lookup (wpAny_getItem_list_slice (PlainL.isList ht) (Heap.IsSliceOf.new s4.heap vl vu vs) pl pu ps h0 ?_ (by rw [List.size_toArray]; omega)) rfl
  have ep : slicePick its.toArray l u st = (pickV its l u st).toArray := by
    unfold slicePick pickV
    simp
  have el : pickV its l u st = (sliceRange (sliceBounds l u st xs.length).fst (sliceBounds l u st xs.length).snd.fst (sliceBounds l u st xs.length).snd.snd).filterMap fun i => its[i]? := by
    unfold pickV
    rw [← hlen]
  have rv : Vals (pickV xs l u st) (pickV its l u st) := by
    rw [el]
    exact pick_vals r _
  rw [ep]
  exact ⟨.ref _, upd H4 _ (.lst (pickV xs l u st)), I5.laid (o := .lst (pickV xs l u st)) (fun b ob q => Heap.get?_push_of_some _ q) (Nat.le_refl _) ⟨hz, _, 0, rv, Heap.get?_push_size _ rfl⟩, rfl, q _ (I5.hok.fresh (Nat.le_refl _))⟩
/-- xs.count(z), xs a list of texts -/
def rCntS (K : PySem.W.Frag) : V → List V → Hp → VK → Prop := fun x xs H Q => ∃ (p : Addr) (zs : List Str) (z : Str), x = .ref p ∧ xs = [.str z] ∧ SqL K H p (zs.map V.str) ∧ Q (.int (zs.countP fun y => y == z : Nat)) H
def isTxt (z : Str) : Value → Bool := fun y => match y with | .str a _ => a == z | _ => false
theorem cnt_txt {z : Str} : ∀ {zs : List Str} {its : List Value}, Vals (zs.map V.str) its → its.countP (isTxt z) = zs.countP fun y => y == z
  | [], _, .nil => rfl
  | y :: zs, _, .cons h t => by
    obtain ⟨u, rfl⟩ := h
    rw [List.countP_cons, List.countP_cons, cnt_txt t]
    rfl
theorem mt_countS {X : Cx} : MtR X "list.count" (rCntS X.K) := by
  intro pins s σ H x xs v us Q I rx rxs h
  obtain ⟨p, zs, z, rfl, rfl, hs, q⟩ := h
  obtain rfl : v = Value.ref p := rx
  obtain ⟨u, rfl, ru⟩ := rxs.one
  obtain ⟨t, rfl⟩ := ru
  obtain ⟨its, r, ⟨⟨oc, od, odt, osl⟩, n, ho, hc, hd, hdt⟩, hz⟩ := I.list hs
  simp only at hc hd hdt
  subst hc hdt
  refine call_meets F.slot_list_count ⟨_, ho, rfl⟩ F.entry_list_count (F.args_list_count_2 _ _) (SeqAt.list_countAt p its.toArray n od osl (.str z t) (isTxt z)) ⟨ho, fun y hy => ?_, ?_⟩
  · obtain ⟨i, hi⟩ := List.getElem?_of_mem (Array.mem_toList_iff.mpr hy)
    have hi : its[i]? = some y := by simpa using hi
    have li : i < (zs.map V.str).length := by
      rw [r.length]
      exact (List.getElem?_eq_some_iff.mp hi).1
    obtain ⟨u, hu, ru⟩ := r.get (List.getElem?_eq_getElem li)
    rw [hi] at hu
    obtain rfl := Option.some.inj hu
    rw [List.getElem_map] at ru
    obtain ⟨t2, rfl⟩ := ru
    exact SeqAt.EqAt.str_str _ _ _ _
  · refine ⟨.int _, H, I.tok _, ⟨_, rfl⟩, ?_⟩
    rw [show its.toArray.toList = its from rfl, cnt_txt r]
    exact q
/-! every second one -/
theorem pick2 {α : Type} {xs : List α} {a m : Nat} (h : xs.length = 2 * m + 1) (ha : a = 1 ∨ a = 2) : pickV xs (some (a : Int)) none (some 2) = (List.range m).filterMap fun k => xs[a + 2 * k]? := by
  unfold pickV sliceBounds sliceRange
  simp only [Option.getD_some, h]
  have h0 : ¬ ((a : Int) < 0) := by omega
  have h2 : (2 : Int) > 0 := by decide
  simp only [h0, h2, if_false, if_true]
  by_cases hm : m = 0
  · subst hm
    rcases ha with rfl | rfl <;> rfl
  · have e1 : max (0 : Int) (min (a : Int) ((2 * m + 1 : Nat) : Int)) = a := by omega
    rw [e1, if_pos (by omega)]
    have e2 : ((((2 * m + 1 : Nat) : Int) - a + 2 - 1) / 2).toNat = m := by omega
    rw [e2, List.filterMap_map]
    congr 1
theorem pairs_at {α : Type} : ∀ (ps : List (α × α)) (k : Nat), (ps.flatMap fun p => [p.1, p.2])[2 * k]? = ps[k]?.map Prod.fst ∧ (ps.flatMap fun p => [p.1, p.2])[2 * k + 1]? = ps[k]?.map Prod.snd
  | [], k => by simp
  | p :: ps, 0 => by simp
  | p :: ps, k + 1 => by
    have ih := pairs_at ps k
    have e1 : 2 * (k + 1) = 2 * k + 2 := by omega
    rw [e1]
    simpa using ih
theorem pairs_len {α : Type} : ∀ ps : List (α × α), (ps.flatMap fun p => [p.1, p.2]).length = 2 * ps.length
  | [] => rfl
  | p :: ps => by
    have := pairs_len ps
    rw [List.flatMap_cons, List.length_append, this, List.length_cons]
    show 2 + 2 * ps.length = 2 * (ps.length + 1)
    omega
theorem range_pick {α β : Type} (ps : List α) (f : α → β) : ((List.range ps.length).filterMap fun k => ps[k]?.map f) = ps.map f := by
  have e : ∀ n, n ≤ ps.length → ((List.range n).filterMap fun k => ps[k]?.map f) = (ps.take n).map f := by
    intro n
    induction n with
    | zero => intro _; simp
    | succ n ih =>
      intro hn
      have hx : ps[n]? = some ps[n] := List.getElem?_eq_getElem (by omega)
      rw [List.range_succ, List.filterMap_append, ih (by omega), List.take_add_one, hx, List.map_append]
      congr 1
      simp [hx]
  have := e ps.length (Nat.le_refl _)
  rw [List.take_length] at this
  exact this
theorem pick_odd {α : Type} (x : α) (ps : List (α × α)) : pickV (x :: ps.flatMap fun p => [p.1, p.2]) (some 1) none (some 2) = ps.map Prod.fst := by
  have h : (x :: ps.flatMap fun p => [p.1, p.2]).length = 2 * ps.length + 1 := by rw [List.length_cons, pairs_len]
  have := pick2 (a := 1) h (.inl rfl)
  rw [show (some (1 : Int)) = some (((1 : Nat) : Int)) from rfl, this, ← range_pick ps Prod.fst]
  congr 1
  funext k
  rw [show 1 + 2 * k = 2 * k + 1 from by omega, List.getElem?_cons_succ]
  exact (pairs_at ps k).1
theorem pick_even {α : Type} (x : α) (ps : List (α × α)) : pickV (x :: ps.flatMap fun p => [p.1, p.2]) (some 2) none (some 2) = ps.map Prod.snd := by
  have h : (x :: ps.flatMap fun p => [p.1, p.2]).length = 2 * ps.length + 1 := by rw [List.length_cons, pairs_len]
  have := pick2 (a := 2) h (.inr rfl)
  refine Eq.trans (show _ = _ from this) ?_
  rw [← range_pick ps Prod.snd]
  congr 1
  funext k
  rw [show 2 + 2 * k = (2 * k + 1) + 1 from by omega, List.getElem?_cons_succ]
  exact (pairs_at ps k).2
end Own

set_option Elab.async false
set_option maxRecDepth 100000
set_option maxHeartbeats 4000000
set_option linter.unusedVariables false
namespace K03
open PySem PySem.Spec PyProof.Rows L2 Own
-- steps
local macro_rules | `(tactic| walk_at "lk") => `(tactic| first
  | assumption | exact upd_same
  | ((with_reducible refine' lk_new ?e (by assumption)); (case e => walk_at "lk"))
  | ((with_reducible refine' lk_ext (by assumption) ?e); (case e => walk_at "lk"))
  | ((with_reducible refine' lk_same (by assumption) ?e); (case e => walk_at "lk")))
local macro_rules | `(tactic| walk_at "sq") => `(tactic| first | assumption | exact SqL.of (by walk_at "lk") | exact SqT.of (by walk_at "lk"))
local macro_rules | `(tactic| walk_at "r1") => `(tactic| first
  | with_reducible refine k_seq ?_ | with_reducible refine k_asg ?_ | with_reducible refine k_ret ?_ | with_reducible refine k_drop ?_ | with_reducible refine k_next ?_ | with_reducible refine k_ifS ?_
  | ((with_reducible refine' k_var ?e ?_); (case e => exact rfl)) | with_reducible refine k_c ?_ | with_reducible refine k_op ?_ | with_reducible refine k_un ?_ | with_reducible refine k_test ?_ | with_reducible refine k_B ?_
  | with_reducible refine k_and ?_ | with_reducible refine k_or ?_ | with_reducible refine k_not ?_ | with_reducible refine k_andV ?_ | with_reducible refine k_orV ?_ | with_reducible refine k_notV ?_ | with_reducible refine k_if ?_
  | with_reducible refine k_nil ?_ | with_reducible refine k_cons ?_ | with_reducible refine k_tup ?_ | with_reducible refine k_lst ?_ | with_reducible refine k_call ?_ | with_reducible refine k_cb ?_ | with_reducible refine k_ck ?_
  | with_reducible refine k_par ?_ | with_reducible refine k_par1 ?_ | with_reducible refine k_tr ?_ | with_reducible refine k_rI0 ?_ | with_reducible refine k_rU ?_
  | with_reducible refine k_gN ?_ | with_reducible refine k_gS ?_ | with_reducible refine k_gNil ?_ | with_reducible refine k_gCons ?_ | with_reducible refine k_bm0 ?_ | with_reducible refine k_bm ?_
  | with_reducible refine k_for ?_ | with_reducible refine k_iL ?_ | with_reducible refine k_iT ?_ | with_reducible refine k_iR1 ?_ | ((with_reducible refine k_iR1i ?e ?_); (case e => first | decide | exact ⟨by omega, by omega⟩))
  | with_reducible refine k_max ?_ | with_reducible refine k_isB ?_ | with_reducible refine k_sl ?_ | with_reducible refine k_noP ?_ | with_reducible refine k_part ?_ | with_reducible refine k_partI ?_ | with_reducible refine k_revL ?_
  | ((with_reducible refine' k_ixqT ?e ?f ?_); (case e => walk_at "sq"); (case f => first | exact rfl | exact atI_head))
  | ((with_reducible refine' k_ixqL ?e ?f ?_); (case e => walk_at "sq"); (case f => first | exact rfl | exact atI_head))
  | ((with_reducible refine' k_lenL ?e ?_); (case e => walk_at "sq"))
  | ((with_reducible refine' k_lenT ?e ?_); (case e => walk_at "sq"))
  | ((with_reducible refine' k_ixL ?e ?f ?_); (case e => walk_at "sq"); (case f => first | exact rfl | exact atI_head))
  | ((with_reducible refine' k_ixT ?e ?f ?_); (case e => walk_at "sq"); (case f => first | exact rfl | exact atI_head))
  | ((with_reducible refine k_eq ?e ?_); (case e => exact rfl)) | ((with_reducible refine k_ne ?e ?_); (case e => exact rfl))
  | ((with_reducible refine k_rI ?e ?_); (case e => first | assumption | omega | decide | exact ⟨by omega, by omega⟩ | exact .inl ⟨by omega, by omega⟩ | exact .inr ⟨by omega, by omega⟩)))
local macro_rules | `(tactic| walk_at "rd") => `(tactic| repeat walk_at "r1")
local macro_rules | `(tactic| walk_at "r2") => `(tactic| first
  | walk_at "r1"
  | with_reducible refine k_ifTt ?_ | with_reducible refine k_ifFf ?_ | with_reducible refine k_ifNt ?_ | with_reducible refine k_ifNf ?_
  | with_reducible refine k_makeR ?_ | with_reducible refine k_tJ ?_ | with_reducible refine k_tJc ?_ | with_reducible refine k_tJn ?_ | with_reducible refine k_fmt ?_ | with_reducible refine k_lc ?_ | with_reducible refine k_din ?_ | with_reducible refine k_fld ?_ | with_reducible refine k_dget ?_
  | with_reducible refine k_dput ?_
  | with_reducible refine k_isNv ?_
  | with_reducible refine k_notNv ?_
  | with_reducible refine k_str ?_
  | with_reducible refine k_enumT ?_
  | with_reducible refine k_zipA ?_
  | with_reducible refine k_chain ?_
  | ((with_reducible refine' k_dgS ?e dkv_cells ?_); (case e => walk_at "lk"))
  | ((with_reducible refine' k_dgS ?e dkv_mixed ?_); (case e => walk_at "lk"))
  | ((with_reducible refine' k_dgS ?e dkv_turn ?_); (case e => walk_at "lk")))
local macro_rules | `(tactic| walk_at "rr") => `(tactic| repeat walk_at "r2")
-- steps end
section
variable {P : Program} {w : World} {K : PySem.W.Frag} {mg : Str → Option Value} {base : Heap}
abbrev s__read_marked : Stmt := top 21
theorem sc__read_marked : FnScope ["text", "words", "indexes", "expected", "labels", "columns"] ["text"] (defScope s__read_marked) :=
  ⟨rfl, rfl, rfl, by decide +kernel, rfl, by decide +kernel, by decide +kernel⟩
/-- the words behind a table's columns -/
def prs (is ks : List Str) : List (Str × Str) := (is.map fun i => (Str.ofString "index", i)) ++ ks.map fun k => (Str.ofString "key", k)
def marksOf (is ks : List Str) : List Str := Str.ofString "" :: (prs is ks).flatMap fun p => [p.1, p.2]
theorem prs_snd (is ks : List Str) : (prs is ks).map Prod.snd = is ++ ks := by
  unfold prs
  rw [List.map_append, List.map_map, List.map_map]
  have e : ∀ (l : List Str) (f : Str → Str × Str), (∀ z, (f z).2 = z) → l.map (Prod.snd ∘ f) = l := fun l f h => by
    have : (Prod.snd ∘ f) = id := funext h
    rw [this, List.map_id]
  rw [e is _ fun _ => rfl, e ks _ fun _ => rfl]
theorem prs_fst (is ks : List Str) : (prs is ks).map Prod.fst = List.replicate is.length (Str.ofString "index") ++ List.replicate ks.length (Str.ofString "key") := by
  unfold prs
  rw [List.map_append, List.map_map, List.map_map]
  have e : ∀ (l : List Str) (c : Str), l.map (Prod.fst ∘ fun z => (c, z)) = List.replicate l.length c := fun l c => by
    induction l with
    | nil => rfl
    | cons z l ih => rw [List.map_cons, ih, List.length_cons, List.replicate_succ]; rfl
  rw [e, e]
def spMarked : Sp := fun vs H Q _ => ∃ (z : Str) (is ks : List Str), vs = [.str z] ∧ z.length ≤ 1000 ∧ Txt.split z (Str.ofString " ") = marksOf is ks ∧ is.length ≤ 8 ∧ ks.length ≤ 8 ∧
  ∀ r a b H', Same H H' → H' r = some (.tup [.ref a, .ref b]) → H' a = some (.tup (is.map V.str)) → H' b = some (.tup (ks.map V.str)) → Q (.ref r) H'
theorem ok_marked {f : Addr} {fd : FuncData} (F : Fun K "_read_marked" "_read_marked" s__read_marked f fd) (z_tuple : mg "tuple" = none) (z_len : mg "len" = none) : FnOk P w K mg base CX0 1 f fd ["text"] spMarked := by
  have nd := sc__read_marked.nd
  refine F.ok sc__read_marked (fun vs H Q E h => ?_) (fun cdv A up s H vs Q E hr h => ?_)
  · obtain ⟨z, is, ks, rfl, _⟩ := h
    rfl
  · obtain ⟨z, is, ks, rfl, hz, hw, li, lk, k⟩ := h
    refine ⟨_, (pss_cons (ps_set (i := 1) nd rfl (Or.inl rfl) (pe_split (pv 0) pe_str))
        (pss_cons (ps_par (i := 4) (j := 5) (by rfl) nd rfl rfl (by decide) rfl rfl (pa_cons (pe_slice3 (pv 1) (po_some pe_int) po_none (po_some pe_int)) (pa_cons (pe_callTy call_tuple_of (by rfl) z_tuple (by decide +kernel) (pa_cons (pe_slice3 (pv 1) (po_some pe_int) po_none (po_some pe_int)) pa_nil)) pa_nil)) (by rfl))
        (pss_cons (ps_set (i := 2) nd rfl (Or.inl rfl) (pe_bm PySem.F.plainAttrs_list PySem.F.slot_list_count PySem.F.type_list_count mt_countS (pv 4) (pa_cons pe_str pa_nil)))
        (pss_cons (ps_set (i := 3) nd rfl (Or.inl rfl) (pe_op op_cat (pe_op op_rep (pe_lst (pa_cons pe_str pa_nil)) (pv 2)) (pe_op op_rep (pe_lst (pa_cons pe_str pa_nil)) (pe_op op_sub (pe_callB (c_lenK (K := K) rfl) (by rfl) z_len (by decide +kernel) (pa_cons (pv 4) pa_nil)) (pv 2)))))
        (pss_cons (ps_if (PW.pt (pw_or (pt_cmpR op_ne (pe_ix ix_seq (pv 1) pe_int (fun _ _ => rfl)) pe_str (nomark _)) (pw_or (pt_cmpR (op_neD hr.units) (pv 4) (pv 3) (nomark _)) (pw_or1 (pt_cmpR op_ne (pe_callB (c_lenK (K := K) rfl) (by rfl) z_len (by decide +kernel) (pa_cons (pv 5) pa_nil)) (pe_callB (c_lenK (K := K) rfl) (by rfl) z_len (by decide +kernel) (pa_cons (pv 4) pa_nil)) (nomark _)))))) (pss_one (ps_ret pe_non)) pss_nil)
        (pss_one (ps_ret (pe_tup (pa_cons (pe_slice sl_tupA (pv 5) po_none (po_some (pv 2))) (pa_cons (pe_slice sl_tupA (pv 5) (po_some (pv 2)) po_none) pa_nil)))))))))), ?_⟩
    walk_at "rr"
    have lp : (prs is ks).length = is.length + ks.length := by
      unfold prs
      rw [List.length_append, List.length_map, List.length_map]
    refine ⟨_, rfl, ⟨_, rfl⟩, z, _, rfl, rfl, by decide +kernel, Nat.le_trans (Nat.add_le_add_right hz 2) (by decide), fun w0 hw0 => ?_⟩
    rw [hw]
    walk_at "rr"
    have em : (marksOf is ks).map V.str = V.str (Str.ofString "") :: ((prs is ks).map fun p => (V.str p.1, V.str p.2)).flatMap fun p => [p.1, p.2] := by
      unfold marksOf
      rw [List.map_cons, List.map_flatMap, List.flatMap_map]
      rfl
    have e1 : pickV ((marksOf is ks).map V.str) (some 1) none (some 2) = (List.replicate is.length (Str.ofString "index") ++ List.replicate ks.length (Str.ofString "key")).map V.str := by
      rw [em, pick_odd, ← prs_fst, List.map_map, List.map_map]
      rfl
    have e2 : pickV ((marksOf is ks).map V.str) (some 2) none (some 2) = (is ++ ks).map V.str := by
      rw [em, pick_even, ← prs_snd, List.map_map, List.map_map]
      rfl
    have hw1 := upd_same (H := H) (a := w0) (o := .lst ((marksOf is ks).map V.str))
    have s1 := Same.upd (o := .lst ((marksOf is ks).map V.str)) hw0
    generalize upd H w0 (.lst ((marksOf is ks).map V.str)) = H1 at hw1 s1 ⊢
    have ll : (List.replicate is.length (Str.ofString "index") ++ List.replicate ks.length (Str.ofString "key")).length = is.length + ks.length := by
      rw [List.length_append, List.length_replicate, List.length_replicate]
    have sz : ∀ n : Nat, n ≤ 1000 → n ≤ sizeLine := fun n h => Nat.le_trans h (by decide)
    refine ⟨_, rfl, 1, rfl, 2, rfl, w0, _, rfl, SqL.of hw1, by decide, by rw [e1, List.length_map, ll]; exact sz _ (by omega), fun l1 hl1 => ?_⟩
    rw [e1]
    have hw2 := Same.upd (o := .lst ((List.replicate is.length (Str.ofString "index") ++ List.replicate ks.length (Str.ofString "key")).map V.str)) hl1 _ _ hw1
    have g1 := upd_same (H := H1) (a := l1) (o := .lst ((List.replicate is.length (Str.ofString "index") ++ List.replicate ks.length (Str.ofString "key")).map V.str))
    have s2 := s1.trans (Same.upd (o := .lst ((List.replicate is.length (Str.ofString "index") ++ List.replicate ks.length (Str.ofString "key")).map V.str)) hl1)
    generalize upd H1 l1 (.lst ((List.replicate is.length (Str.ofString "index") ++ List.replicate ks.length (Str.ofString "key")).map V.str)) = H2 at hw2 g1 s2 ⊢
    refine ⟨_, rfl, 2, rfl, 2, rfl, w0, _, rfl, SqL.of hw2, by decide, by rw [e2, List.length_map, List.length_append]; exact sz _ (by omega), fun l2 hl2 => ?_⟩
    rw [e2]
    walk_at "rr"
    refine ⟨l2, _, rfl, .inl ⟨SqL.of upd_same, fun t2 ht2 => ?_⟩⟩
    walk_at "rr"
    have s3 := s2.trans ((Same.upd (o := .lst ((is ++ ks).map V.str)) hl2).trans (Same.upd (o := .tup ((is ++ ks).map V.str)) ht2))
    have hw3 := Same.upd (o := .tup ((is ++ ks).map V.str)) ht2 _ _ (Same.upd (o := .lst ((is ++ ks).map V.str)) hl2 _ _ hw2)
    have g13 := Same.upd (o := .tup ((is ++ ks).map V.str)) ht2 _ _ (Same.upd (o := .lst ((is ++ ks).map V.str)) hl2 _ _ g1)
    have g23 := upd_same (H := upd H2 l2 (.lst ((is ++ ks).map V.str))) (a := t2) (o := .tup ((is ++ ks).map V.str))
    generalize upd (upd H2 l2 (.lst ((is ++ ks).map V.str))) t2 (.tup ((is ++ ks).map V.str)) = H3 at s3 hw3 g13 g23 ⊢
    refine ⟨.inl ⟨rfl, _, SqL.of g13⟩, ?_⟩
    walk_at "rr"
    have cn : (List.replicate is.length (Str.ofString "index") ++ List.replicate ks.length (Str.ofString "key")).countP (fun y => y == Str.ofString "index") = is.length := by
      have n1 : (Str.ofString "index" == Str.ofString "index") = true := by decide +kernel
      have n2 : (Str.ofString "key" == Str.ofString "index") = false := by decide +kernel
      rw [List.countP_append, List.countP_replicate, List.countP_replicate, n1, n2]
      simp
    refine ⟨l1, _, _, rfl, rfl, SqL.of g13, ?_⟩
    rw [cn]
    walk_at "rr"
    refine ⟨k_sz rfl, fun q1 hq1 => ?_⟩
    walk_at "rr"
    have rp : ∀ (n : Nat) (z : Str), (List.replicate ((n : Int)).toNat [V.str z]).flatten = (List.replicate n z).map V.str := fun n z => by
      rw [Int.toNat_natCast]
      induction n with
      | zero => rfl
      | succ n ih => rw [List.replicate_succ, List.flatten_cons, ih, List.replicate_succ, List.map_cons]; rfl
    refine ⟨q1, _, _, rfl, rfl, upd_same, by omega, by omega, ?_, fun q2 hq2 => ?_⟩
    · rw [Int.toNat_natCast]
      exact sz _ (by show 1 * _ ≤ 1000; omega)
    rw [rp]
    walk_at "rr"
    refine ⟨k_sz rfl, fun q3 hq3 => ?_⟩
    have s4 := (Same.upd (o := .lst [V.str (Str.ofString "index")]) hq1).trans ((Same.upd (o := .lst ((List.replicate is.length (Str.ofString "index")).map V.str)) hq2).trans (Same.upd (o := .lst [V.str (Str.ofString "key")]) hq3))
    have g2 := Same.upd (o := .lst [V.str (Str.ofString "key")]) hq3 _ _ (upd_same (H := upd H3 q1 (.lst [V.str (Str.ofString "index")])) (a := q2) (o := .lst ((List.replicate is.length (Str.ofString "index")).map V.str)))
    have g3 := upd_same (H := upd (upd H3 q1 (.lst [V.str (Str.ofString "index")])) q2 (.lst ((List.replicate is.length (Str.ofString "index")).map V.str))) (a := q3) (o := .lst [V.str (Str.ofString "key")])
    generalize upd (upd (upd H3 q1 (.lst [V.str (Str.ofString "index")])) q2 (.lst ((List.replicate is.length (Str.ofString "index")).map V.str))) q3 (.lst [V.str (Str.ofString "key")]) = H4 at s4 g2 g3 ⊢
    have g14 := s4 _ _ g13
    walk_at "rr"
    rw [List.length_map, ll, show (((is.length + ks.length : Nat) : Int) - (is.length : Int)) = (ks.length : Int) from by omega]
    refine ⟨q3, _, _, rfl, rfl, g3, by omega, by omega, ?_, fun q4 hq4 => ?_⟩
    · rw [Int.toNat_natCast]
      exact sz _ (by show 1 * _ ≤ 1000; omega)
    rw [rp]
    refine ⟨q2, q4, _, _, rfl, rfl, Same.upd hq4 _ _ g2, upd_same, ?_, fun q5 hq5 => ?_⟩
    · rw [List.length_map, List.length_map, List.length_replicate, List.length_replicate]
      exact sz _ (by omega)
    rw [← List.map_append]
    walk_at "rr"
    refine k_sureN rfl ?_
    walk_at "rr"
    have s5 := (Same.upd (o := .lst ((List.replicate ks.length (Str.ofString "key")).map V.str)) hq4).trans (Same.upd (o := .lst ((List.replicate is.length (Str.ofString "index") ++ List.replicate ks.length (Str.ofString "key")).map V.str)) hq5)
    have g5 := upd_same (H := upd H4 q4 (.lst ((List.replicate ks.length (Str.ofString "key")).map V.str))) (a := q5) (o := .lst ((List.replicate is.length (Str.ofString "index") ++ List.replicate ks.length (Str.ofString "key")).map V.str))
    generalize upd (upd H4 q4 (.lst ((List.replicate ks.length (Str.ofString "key")).map V.str))) q5 (.lst ((List.replicate is.length (Str.ofString "index") ++ List.replicate ks.length (Str.ofString "key")).map V.str)) = H5 at s5 g5 ⊢
    have g15 := s5 _ _ g14
    have g25 := s5 _ _ (s4 _ _ g23)
    have sh : SeqAt.shaped (.list ((List.replicate is.length (Str.ofString "index") ++ List.replicate ks.length (Str.ofString "key")).map .str)) = true := by
      have d1 := dep_strs (List.replicate is.length (Str.ofString "index") ++ List.replicate ks.length (Str.ofString "key"))
      have n1 : isNameB (Str.ofString "index") = true := by decide +kernel
      have n2 : isNameB (Str.ofString "key") = true := by decide +kernel
      have l1 := lay_strs (List.replicate is.length (Str.ofString "index") ++ List.replicate ks.length (Str.ofString "key")) fun y hy => by
        rcases List.mem_append.mp hy with hy | hy
        · rw [(List.mem_replicate.mp hy).2]; exact n1
        · rw [(List.mem_replicate.mp hy).2]; exact n2
      unfold SeqAt.shaped
      rw [Bool.and_eq_true]
      refine ⟨l1, decide_eq_true ?_⟩
      show PyData.depthAll _ + 1 ≤ 64
      omega
    refine ⟨_, _, .lst (SqL.of g15) (dpAll_strs _), .lst (SqL.of g5) (dpAll_strs _), sh, sh, ?_⟩
    rw [SeqAt.eqv_refl _ (by unfold SeqAt.shaped at sh; rw [Bool.and_eq_true] at sh; exact sh.1)]
    walk_at "rr"
    rw [List.length_map, List.length_map, ll, List.length_append]
    refine k_sureN rfl ?_
    walk_at "rr"
    refine sla_of g25 (cut_to (k := is.length)) fun ra H6 s6 ra6 => ?_
    walk_at "rr"
    refine sla_of (s6 _ _ g25) (cut_from (k := is.length)) fun rb H7 s7 rb7 => ?_
    walk_at "rr"
    refine ⟨k_sz rfl, fun rr hrr => ?_⟩
    walk_at "rr"
    refine k rr ra rb _ ((((s3.trans s4).trans s5).trans s6).trans (s7.trans (Same.upd hrr))) upd_same (Same.upd hrr _ _ (s7 _ _ ?_)) (Same.upd hrr _ _ ?_)
    · rw [ra6, ← List.map_take, List.take_left']
      rfl
    · rw [rb7, ← List.map_drop, List.drop_left']
      rfl
end
end K03

set_option Elab.async false
set_option maxRecDepth 100000
set_option maxHeartbeats 4000000
set_option linter.unusedVariables false
namespace K03
open PySem PySem.Spec PyProof.Rows L2 Own
-- steps
local macro_rules | `(tactic| walk_at "lk") => `(tactic| first
  | assumption | exact upd_same
  | ((with_reducible refine' lk_new ?e (by assumption)); (case e => walk_at "lk"))
  | ((with_reducible refine' lk_ext (by assumption) ?e); (case e => walk_at "lk"))
  | ((with_reducible refine' lk_same (by assumption) ?e); (case e => walk_at "lk")))
local macro_rules | `(tactic| walk_at "sq") => `(tactic| first | assumption | exact SqL.of (by walk_at "lk") | exact SqT.of (by walk_at "lk"))
local macro_rules | `(tactic| walk_at "r1") => `(tactic| first
  | with_reducible refine k_seq ?_ | with_reducible refine k_asg ?_ | with_reducible refine k_ret ?_ | with_reducible refine k_drop ?_ | with_reducible refine k_next ?_ | with_reducible refine k_ifS ?_
  | ((with_reducible refine' k_var ?e ?_); (case e => exact rfl)) | with_reducible refine k_c ?_ | with_reducible refine k_op ?_ | with_reducible refine k_un ?_ | with_reducible refine k_test ?_ | with_reducible refine k_B ?_
  | with_reducible refine k_and ?_ | with_reducible refine k_or ?_ | with_reducible refine k_not ?_ | with_reducible refine k_andV ?_ | with_reducible refine k_orV ?_ | with_reducible refine k_notV ?_ | with_reducible refine k_if ?_
  | with_reducible refine k_nil ?_ | with_reducible refine k_cons ?_ | with_reducible refine k_tup ?_ | with_reducible refine k_lst ?_ | with_reducible refine k_call ?_ | with_reducible refine k_cb ?_ | with_reducible refine k_ck ?_
  | with_reducible refine k_par ?_ | with_reducible refine k_par1 ?_ | with_reducible refine k_tr ?_ | with_reducible refine k_rI0 ?_ | with_reducible refine k_rU ?_
  | with_reducible refine k_gN ?_ | with_reducible refine k_gS ?_ | with_reducible refine k_gNil ?_ | with_reducible refine k_gCons ?_ | with_reducible refine k_bm0 ?_ | with_reducible refine k_bm ?_
  | with_reducible refine k_for ?_ | with_reducible refine k_iL ?_ | with_reducible refine k_iT ?_ | with_reducible refine k_iR1 ?_ | ((with_reducible refine k_iR1i ?e ?_); (case e => first | decide | exact ⟨by omega, by omega⟩))
  | with_reducible refine k_max ?_ | with_reducible refine k_isB ?_ | with_reducible refine k_sl ?_ | with_reducible refine k_noP ?_ | with_reducible refine k_part ?_ | with_reducible refine k_partI ?_ | with_reducible refine k_revL ?_
  | ((with_reducible refine' k_ixqT ?e ?f ?_); (case e => walk_at "sq"); (case f => first | exact rfl | exact atI_head))
  | ((with_reducible refine' k_ixqL ?e ?f ?_); (case e => walk_at "sq"); (case f => first | exact rfl | exact atI_head))
  | ((with_reducible refine' k_lenL ?e ?_); (case e => walk_at "sq"))
  | ((with_reducible refine' k_lenT ?e ?_); (case e => walk_at "sq"))
  | ((with_reducible refine' k_ixL ?e ?f ?_); (case e => walk_at "sq"); (case f => first | exact rfl | exact atI_head))
  | ((with_reducible refine' k_ixT ?e ?f ?_); (case e => walk_at "sq"); (case f => first | exact rfl | exact atI_head))
  | ((with_reducible refine k_eq ?e ?_); (case e => exact rfl)) | ((with_reducible refine k_ne ?e ?_); (case e => exact rfl))
  | ((with_reducible refine k_rI ?e ?_); (case e => first | assumption | omega | decide | exact ⟨by omega, by omega⟩ | exact .inl ⟨by omega, by omega⟩ | exact .inr ⟨by omega, by omega⟩)))
local macro_rules | `(tactic| walk_at "rd") => `(tactic| repeat walk_at "r1")
local macro_rules | `(tactic| walk_at "r2") => `(tactic| first
  | walk_at "r1"
  | with_reducible refine k_ifTt ?_ | with_reducible refine k_ifFf ?_ | with_reducible refine k_ifNt ?_ | with_reducible refine k_ifNf ?_
  | with_reducible refine k_makeR ?_ | with_reducible refine k_tJ ?_ | with_reducible refine k_tJc ?_ | with_reducible refine k_tJn ?_ | with_reducible refine k_fmt ?_ | with_reducible refine k_lc ?_ | with_reducible refine k_din ?_ | with_reducible refine k_fld ?_ | with_reducible refine k_dget ?_
  | with_reducible refine k_dput ?_
  | with_reducible refine k_isNv ?_
  | with_reducible refine k_notNv ?_
  | with_reducible refine k_str ?_
  | with_reducible refine k_enumT ?_
  | with_reducible refine k_zipA ?_
  | with_reducible refine k_chain ?_
  | ((with_reducible refine' k_dgS ?e dkv_cells ?_); (case e => walk_at "lk"))
  | ((with_reducible refine' k_dgS ?e dkv_mixed ?_); (case e => walk_at "lk"))
  | ((with_reducible refine' k_dgS ?e dkv_turn ?_); (case e => walk_at "lk")))
local macro_rules | `(tactic| walk_at "rr") => `(tactic| repeat walk_at "r2")
-- steps end
section
variable {P : Program} {w : World} {K : PySem.W.Frag} {mg : Str → Option Value} {base : Heap}
abbrev s__read_table : Stmt := top 20
theorem sc__read_table : FnScope ["line", "columns", "marked", "front", "_", "rest", "inner", "closing", "back", "word", "name", "some"] ["line"] (defScope s__read_table) :=
  ⟨rfl, rfl, rfl, by decide +kernel, rfl, by decide +kernel, by decide +kernel⟩
theorem k_star {te : TE} {ta : TA} {σ : L2.St} {H : Hp} {Q : List V → Hp → Prop} (h : te σ H fun x H1 => ∃ p xs, x = V.ref p ∧ (SqT K H1 p xs ∨ SqL K H1 p xs) ∧ ta σ H1 fun ys H2 => Q (xs ++ ys) H2) : StX.tStar K te ta σ H Q := h
/-- the marks behind the columns -/
def backOf (t : T) : Str := addK (addI (Str.ofString "") t.is) t.ks
/-- what the line of a table says, cut apart -/
structure Cuts (t : T) : Prop where
  a : Txt.partition (lineOf t) (Str.ofString " (") = (Str.ofString "table " ++ t.nm, Str.ofString " (", Txt.join (Str.ofString ", ") t.cs ++ Str.ofString ")" ++ backOf t)
  b : Txt.partition (Txt.join (Str.ofString ", ") t.cs ++ Str.ofString ")" ++ backOf t) (Str.ofString ")") = (Txt.join (Str.ofString ", ") t.cs, Str.ofString ")", backOf t)
  c : Txt.partition (Str.ofString "table " ++ t.nm) (Str.ofString " ") = (Str.ofString "table", Str.ofString " ", t.nm)
  d : Txt.split (Txt.join (Str.ofString ", ") t.cs) (Str.ofString ", ") = t.cs
  e : Txt.split (backOf t) (Str.ofString " ") = marksOf t.is t.ks
def spReadT : Sp := fun vs H Q _ => ∃ t : T, vs = [.str (lineOf t)] ∧ t.Names ∧ Cuts t ∧ (lineOf t).length ≤ 1000 ∧ ∀ a H', Same H H' → TAt H' a t → Q (.ref a) H'
theorem ok_readT {f : Addr} {fd : FuncData} (F : Fun K "_read_table" "_read_table" s__read_table f fd) (C_is_name : CalF P w K mg base "is_name" 1 ["thing"] spName) (C__read_marked : CalF P w K mg base "_read_marked" 1 ["text"] spMarked)
    (z_tuple : mg "tuple" = none) (z_all : mg "all" = none) : FnOk P w K mg base CX0 2 f fd ["line"] spReadT := by
  have nd := sc__read_table.nd
  refine F.ok sc__read_table (fun vs H Q E h => ?_) (fun cdv A up s H vs Q E hr h => ?_)
  · obtain ⟨t, rfl, _⟩ := h
    rfl
  · obtain ⟨t, rfl, nn, ct, ln, k⟩ := h
    refine ⟨_, (pss_cons (ps_asg (pe_partition (pv 0) pe_str) (pg_tup rfl (pgs_cons (pg_name (i := 3) nd rfl (Or.inl rfl)) (pgs_cons (pg_name (i := 4) nd rfl (Or.inl rfl)) (pgs_cons (pg_name (i := 5) nd rfl (Or.inl rfl)) pgs_nil)))))
        (pss_cons (ps_asg (pe_partition (pv 5) pe_str) (pg_tup rfl (pgs_cons (pg_name (i := 6) nd rfl (Or.inl rfl)) (pgs_cons (pg_name (i := 7) nd rfl (Or.inl rfl)) (pgs_cons (pg_name (i := 8) nd rfl (Or.inl rfl)) pgs_nil)))))
        (pss_cons (ps_asg (pe_partition (pv 3) pe_str) (pg_tup rfl (pgs_cons (pg_name (i := 9) nd rfl (Or.inl rfl)) (pgs_cons (pg_name (i := 4) nd rfl (Or.inl rfl)) (pgs_cons (pg_name (i := 10) nd rfl (Or.inl rfl)) pgs_nil)))))
        (pss_cons (ps_set (i := 1) nd rfl (Or.inl rfl) (pe_callTy call_tuple_of (by rfl) z_tuple (by decide +kernel) (pa_cons (pe_split (pv 6) pe_str) pa_nil)))
        (pss_cons (ps_if (PW.pt (pw_or (pt_cmpR op_eq (pv 7) pe_str (nomark _)) (pw_or1 (pt_cmpR op_ne (pv 9) pe_str (nomark _))))) (pss_one (ps_ret pe_non)) pss_nil)
        (pss_cons (ps_set (i := 2) nd rfl (Or.inl rfl) (pe_cf C__read_marked (hr.mono (by decide)) (pa_cons (pv 8) pa_nil)))
        (pss_cons (ps_if (PW.pt (pw_or (pt_cmpR op_isN (pv 2) pe_non (nomark _)) (pw_or1 (pt_not (pt_val (pe_callB (cr_all rfl) (by rfl) z_all (by decide +kernel) (pa_cons (pe_lc (own := [("some", 11)]) (g := (gName 11)) (tt := tYes) (te := (tCall _ [] E0 (tCons (tVar 11) tNil))) (by rfl) nd (pi_tup (pe_tup (pa_cons (pv 10) (StX.pa_star (pv 1) (StX.pa_star (pe_ix ix_tup (pv 2) pe_int (fun _ _ => rfl)) (StX.pa_star (pe_ix ix_tup (pv 2) pe_int (fun _ _ => rfl)) pa_nil)))))) (blkOk_by (own := [("some", 11)]) (N := ["line", "columns", "marked", "front", "_", "rest", "inner", "closing", "back", "word", "name", "some"]) (sc := defScope s__read_table) (by decide +kernel)) (fun _ _ _ _ _ => by exact (pg_name (i := 11) nd rfl (Or.inl rfl))) (fun _ _ _ _ _ => by exact pts_nil) (fun _ _ _ _ _ => by exact (pe_cf C_is_name (hr.mono (by decide)) (pa_cons (pv 11) pa_nil)))) pa_nil))))))) (pss_one (ps_ret pe_non)) pss_nil)
        (pss_one (ps_ret (pe_tup (pa_cons (pv 10) (pa_cons (pv 1) (pa_cons (pe_ix ix_tup (pv 2) pe_int (fun _ _ => rfl)) (pa_cons (pe_ix ix_tup (pv 2) pe_int (fun _ _ => rfl)) pa_nil)))))))))))))), ?_⟩
    walk_at "rr"
    have sz : ∀ n : Nat, n ≤ 1000 → n ≤ sizeLine := fun n h => Nat.le_trans h (by decide)
    have len3 : ∀ (x y a b c : Str), Txt.partition x y = (a, b, c) → x.length ≤ 1000 → a.length ≤ 1000 ∧ c.length ≤ 1000 := by
      intro x y a b c e hx
      rcases PyProof.Rows.partition_whole x y with ⟨e2, _⟩ | ⟨i, e2, _⟩
      · rw [e] at e2
        obtain ⟨rfl, rfl, rfl⟩ := e2
        exact ⟨hx, Nat.zero_le _⟩
      · rw [e] at e2
        have h1 : a = Builtin.Str.strSub x 0 i := congrArg Prod.fst e2
        have h3 : c = Builtin.Str.strSub x (i + y.length) x.length := congrArg (fun q => q.2.2) e2
        have l : ∀ p q, (Builtin.Str.strSub x p q).length ≤ x.length := fun p q => by
          show (x.cps.extract p q).size ≤ x.cps.size
          rw [Array.size_extract]
          omega
        have := l 0 i
        have := l (i + y.length) x.length
        rw [h1, h3]
        omega
    obtain ⟨fa, fc⟩ := len3 _ _ _ _ _ ct.a ln
    obtain ⟨ga, gc⟩ := len3 _ _ _ _ _ ct.b fc
    refine ⟨_, rfl, ⟨_, rfl⟩, lineOf t, _, rfl, rfl, by decide +kernel, sz _ ln, fun p1 hp1 => ?_⟩
    rw [ct.a]
    refine k_gTup (SqT.of upd_same) rfl ?_
    walk_at "rr"
    refine ⟨_, rfl, ⟨_, rfl⟩, _, _, rfl, rfl, by decide +kernel, sz _ fc, fun p2 hp2 => ?_⟩
    rw [ct.b]
    refine k_gTup (SqT.of upd_same) rfl ?_
    walk_at "rr"
    refine ⟨_, rfl, ⟨_, rfl⟩, _, _, rfl, rfl, by decide +kernel, sz _ fa, fun p3 hp3 => ?_⟩
    rw [ct.c]
    refine k_gTup (SqT.of upd_same) rfl ?_
    walk_at "rr"
    refine ⟨_, rfl, ⟨_, rfl⟩, _, _, rfl, rfl, by decide +kernel, Nat.le_trans (Nat.add_le_add_right ga 2) (by decide), fun q1 hq1 => ?_⟩
    rw [ct.d]
    walk_at "rr"
    refine ⟨q1, _, rfl, .inl ⟨SqL.of upd_same, fun c hc => ?_⟩⟩
    walk_at "rr"
    refine k_not1 (show ¬ V.str (Str.ofString ")") = V.str (Str.ofString "") by decide +kernel) ?_
    walk_at "rr"
    refine k_sureN rfl ?_
    walk_at "rr"
    have s1 := (((((Same.upd (o := .tup [V.str (Str.ofString "table " ++ t.nm), V.str (Str.ofString " ("), V.str (Txt.join (Str.ofString ", ") t.cs ++ Str.ofString ")" ++ backOf t)]) hp1).trans
      (Same.upd (o := .tup [V.str (Txt.join (Str.ofString ", ") t.cs), V.str (Str.ofString ")"), V.str (backOf t)]) hp2)).trans (Same.upd (o := .tup [V.str (Str.ofString "table"), V.str (Str.ofString " "), V.str t.nm]) hp3)).trans
      (Same.upd (o := .lst (t.cs.map V.str)) hq1)).trans (Same.upd (o := .tup (t.cs.map V.str)) hc))
    refine ⟨backOf t, t.is, t.ks, rfl, gc, ct.e, nn.i.1, nn.k.1, fun rm ra rb H6 s6 hrm hra hrb => ?_⟩
    have hc6 := s6 _ _ upd_same
    have s16 := s1.trans s6
    clear s1 hp1 hp2 hp3 hq1 s6
    walk_at "rr"
    refine ⟨rfl, _, rfl, ?_⟩
    rw [decide_eq_false (show ¬ V.ref rm = V.non from fun z => by cases z)]
    walk_at "rr"
    refine k_star ?_
    walk_at "rr"
    refine ⟨c, _, rfl, .inl (SqT.of hc6), ?_⟩
    refine k_star ?_
    walk_at "rr"
    refine ⟨ra, _, rfl, .inl (SqT.of hra), ?_⟩
    refine k_star ?_
    walk_at "rr"
    refine ⟨rb, _, rfl, .inl (SqT.of hrb), ?_⟩
    walk_at "rr"
    have l1 := nn.c.1
    have l2 := nn.i.1
    have l3 := nn.k.1
    have ew : V.str t.nm :: (t.cs.map V.str ++ (t.is.map V.str ++ (t.ks.map V.str ++ []))) = (t.nm :: (t.cs ++ (t.is ++ t.ks))).map V.str := by simp
    have lw : (t.nm :: (t.cs ++ (t.is ++ t.ks))).length ≤ 30 := by
      rw [List.length_cons, List.length_append, List.length_append]
      omega
    have nw : ∀ z ∈ t.nm :: (t.cs ++ (t.is ++ t.ks)), isNameB z = true := fun z hz => by
      rcases List.mem_cons.mp hz with rfl | hz
      · exact nn.nm
      · rcases List.mem_append.mp hz with hz | hz
        · exact nn.c.2 z hz
        · rcases List.mem_append.mp hz with hz | hz
          · exact nn.i.2 z hz
          · exact nn.k.2 z hz
    dsimp only
    rw [ew]
    generalize t.nm :: (t.cs ++ (t.is ++ t.ks)) = ws at lw nw ⊢
    refine ⟨by rw [List.length_map]; exact sz _ (by omega), fun p4 hp4 => ?_⟩
    have h4 := upd_same (H := H6) (a := p4) (o := .tup (ws.map V.str))
    have s4 := Same.upd (o := .tup (ws.map V.str)) hp4
    generalize upd H6 p4 (.tup (ws.map V.str)) = H7 at h4 s4 ⊢
    refine ⟨p4, rfl, ⟨_, SqT.of h4⟩, fun D hD => ?_⟩
    refine lc_same (walk_tup (xs := ws.map V.str)) (fun _ => .bl true) (fun _ => true) (by rw [List.length_map]; omega) hD (fun H2 s2 => SqT.of (s2 _ _ h4)) (fun k x H2 H3 hk s2 y Q1 R1 q1 _ => ?_) fun H2 s2 hD1 => ?_
    · obtain ⟨rfl, y⟩ := y
      have e : (ws.map V.str)[k]? = some x := y
      rw [List.getElem?_map] at e
      obtain ⟨z, hz, rfl⟩ := Option.map_eq_some_iff.mp e
      walk_at "rr"
      refine ⟨rfl, k_yes ?_⟩
      walk_at "rr"
      exact ⟨z, rfl, nw z (List.mem_of_getElem? hz), fun H4 s4 => q1 rfl _ s4⟩
    · rw [range_all] at hD1
      have hrm2 := s2 _ _ (s4 _ _ hrm)
      walk_at "rr"
      refine ⟨D, (List.range (ws.map V.str).length).map fun _ => true, rfl, SqL.of (by rw [hD1, List.map_map]; rfl), ?_⟩
      rw [all_true]
      walk_at "rr"
      refine ⟨k_sz rfl, fun a ha => ?_⟩
      walk_at "rr"
      exact k a _ (((s16.trans s4).trans s2).trans (Same.upd ha)) ⟨c, ra, rb, upd_same, Same.upd ha _ _ (s2 _ _ (s4 _ _ hc6)), Same.upd ha _ _ (s2 _ _ (s4 _ _ hra)), Same.upd ha _ _ (s2 _ _ (s4 _ _ hrb))⟩
end
end K03

set_option Elab.async false
set_option maxRecDepth 100000
set_option maxHeartbeats 4000000
set_option linter.unusedVariables false
namespace K03
open PySem PySem.Spec PyProof.Rows L2 Own
open TL
/-! ### cutting and joining, more -/
theorem joinL_mem {S : List Nat} {c : Nat} : ∀ {ps : List (List Nat)}, c ∈ joinL S ps → c ∈ S ∨ ∃ p ∈ ps, c ∈ p
  | [], h => by cases h
  | [p], h => .inr ⟨p, List.mem_singleton.mpr rfl, h⟩
  | p :: q :: r, h => by
    have h : c ∈ p ++ (S ++ joinL S (q :: r)) := h
    rcases List.mem_append.mp h with h | h
    · exact .inr ⟨p, List.mem_cons_self, h⟩
    · rcases List.mem_append.mp h with h | h
      · exact .inl h
      · rcases joinL_mem h with h | ⟨x, hx, h⟩
        · exact .inl h
        · exact .inr ⟨x, List.mem_cons_of_mem _ hx, h⟩
theorem join_free {y : Str} {c : Nat} {ps : List Str} (h : c ∉ tl y) (h2 : ∀ p ∈ ps, c ∉ tl p) : c ∉ tl (Txt.join y ps) := by
  rw [join_eq, tl_join]
  intro z
  rcases joinL_mem z with z | ⟨p, hp, z⟩
  · exact h z
  · obtain ⟨q, hq, rfl⟩ := List.mem_map.mp hp
    exact h2 q hq z
/-- a separator of two signs, the second of which does not occur ahead -/
theorem pre_two {s t : Nat} (n : s ≠ t) {p r : List Nat} (h : t ∉ p) {i : Nat} (hi : i < p.length) : pre [s, t] ((p ++ (s :: r)).drop i) = false := by
  rw [List.drop_append_of_le_length (by omega)]
  have hq : ∀ x ∈ p.drop i, x ≠ t := fun x hx e => h (e ▸ List.mem_of_mem_drop hx)
  have lq : 0 < (p.drop i).length := by rw [List.length_drop]; omega
  generalize p.drop i = q at hq lq
  match q with
  | [] => exact absurd lq (by simp)
  | [x] =>
    unfold pre
    simp [n]
  | x :: y :: q' =>
    have := hq y (by simp)
    unfold pre
    simp [this]
theorem partition_two {y a b : Str} {s t : Nat} (ey : tl y = [s, t]) (n : s ≠ t) (h : t ∉ tl a) : Txt.partition (a ++ y ++ b) y = (a, y, b) := by
  rw [partition_par _ y (by rw [ey]; simp), tl_append, tl_append, List.append_assoc, ey]
  have := par_part (S := [s, t]) (p := tl a) (rest := tl b) (acc := []) (by simp) fun i hi => pre_two (r := t :: tl b) n h hi
  rw [this]
  show ((⟨([] ++ tl a).toArray⟩ : Str), y, (⟨(tl b).toArray⟩ : Str)) = _
  rw [List.nil_append, mk_tl, mk_tl]
theorem join_cons (y w : Str) (ws : List Str) : tl (Txt.join y (w :: ws)) = tl w ++ ws.flatMap fun z => tl y ++ tl z := by
  rw [join_eq, tl_join]
  induction ws generalizing w with
  | nil => simp [joinL]
  | cons z ws ih =>
    show tl w ++ (tl y ++ joinL (tl y) ((z :: ws).map tl)) = _
    have := ih z
    rw [List.map_cons] at this
    rw [List.map_cons, this, List.flatMap_cons]
    simp

theorem name_free {z : Str} (h : isNameB z = true) {c : Nat} (hc : c < 97) : c ∉ tl z := fun m => by
  unfold isNameB at h
  simp only [Bool.and_eq_true, decide_eq_true_eq] at h
  have := List.all_eq_true.mp h.2 c m
  unfold isLet at this
  simp only [Bool.and_eq_true, decide_eq_true_eq] at this
  omega
theorem addI_tl (zs : List Str) : ∀ s : Str, tl (addI s zs) = tl s ++ zs.flatMap fun z => tl (Str.ofString " index ") ++ tl z := by
  induction zs with
  | nil => intro s; simp [addI]
  | cons z zs ih =>
    intro s
    have : addI s (z :: zs) = addI (s ++ Str.ofString " index " ++ z) zs := rfl
    rw [this, ih, tl_append, tl_append, List.flatMap_cons]
    simp
theorem addK_tl (zs : List Str) : ∀ s : Str, tl (addK s zs) = tl s ++ zs.flatMap fun z => tl (Str.ofString " key ") ++ tl z := by
  induction zs with
  | nil => intro s; simp [addK]
  | cons z zs ih =>
    intro s
    have : addK s (z :: zs) = addK (s ++ Str.ofString " key " ++ z) zs := rfl
    rw [this, ih, tl_append, tl_append, List.flatMap_cons]
    simp
theorem tl_nil : tl (Str.ofString "") = [] := by decide +kernel
theorem back_tl (t : T) : tl (backOf t) = (t.is.flatMap fun z => tl (Str.ofString " index ") ++ tl z) ++ t.ks.flatMap fun z => tl (Str.ofString " key ") ++ tl z := by
  unfold backOf
  rw [addK_tl, addI_tl, tl_nil, List.nil_append]
theorem line_cut (t : T) : lineOf t = (Str.ofString "table " ++ t.nm) ++ Str.ofString " (" ++ (Txt.join (Str.ofString ", ") t.cs ++ Str.ofString ")" ++ backOf t) := by
  refine ext_tl ?_
  unfold lineOf
  rw [addK_tl, addI_tl]
  unfold headOf
  simp only [tl_append, back_tl, List.append_assoc]
theorem ofS (s : String) (l : List Nat) (h : tl (Str.ofString s) = l) : tl (Str.ofString s) = l := h
theorem cuts_of {t : T} (n : t.Names) (h1 : 1 ≤ t.cs.length) : Cuts t := by
  have e1 : tl (Str.ofString " (") = [32, 40] := by decide +kernel
  have e2 : tl (Str.ofString ")") = 41 :: [] := by decide +kernel
  have e3 : tl (Str.ofString " ") = 32 :: [] := by decide +kernel
  have e4 : tl (Str.ofString ", ") = 44 :: [32] := by decide +kernel
  have k4 : (Str.ofString ", ").cps.all (· < 256) = true := by decide +kernel
  have k3 : (Str.ofString " ").cps.all (· < 256) = true := by decide +kernel
  have w1 : tl (Str.ofString "table ") = [116, 97, 98, 108, 101, 32] := by decide +kernel
  have w2 : tl (Str.ofString "table") = [116, 97, 98, 108, 101] := by decide +kernel
  have w3 : Str.ofString "table " = Str.ofString "table" ++ Str.ofString " " := by decide +kernel
  have w4 : tl (Str.ofString "index") = [105, 110, 100, 101, 120] := by decide +kernel
  have w5 : tl (Str.ofString "key") = [107, 101, 121] := by decide +kernel
  have w6 : tl (Str.ofString " index ") = 32 :: ([105, 110, 100, 101, 120] ++ [32]) := by decide +kernel
  have w7 : tl (Str.ofString " key ") = 32 :: ([107, 101, 121] ++ [32]) := by decide +kernel
  refine ⟨?_, ?_, ?_, ?_, ?_⟩
  · rw [line_cut]
    refine partition_two e1 (by decide) ?_
    rw [tl_append, w1, List.mem_append]
    rintro (h | h)
    · exact absurd h (by decide)
    · exact name_free n.nm (by decide) h
  · refine partition_app e2 (join_free (by rw [e4]; decide) fun p hp => name_free (n.c.2 p hp) (by decide))
  · rw [w3]
    exact partition_app e3 (by rw [w2]; decide)
  · refine split_join e4 k4 (fun z => by rw [z] at h1; exact absurd h1 (by decide)) fun p hp => name_free (n.c.2 p hp) (by decide)
  · have : backOf t = Txt.join (Str.ofString " ") (marksOf t.is t.ks) := by
      refine ext_tl ?_
      rw [back_tl]
      unfold marksOf
      rw [join_cons, tl_nil, List.nil_append]
      unfold prs
      rw [List.flatMap_append, List.flatMap_append, List.flatMap_map, List.flatMap_map]
      simp only [List.flatMap_assoc, e3, w6, w7]
      congr 1
      · congr 1
        funext z
        simp [w4]
      · congr 1
        funext z
        simp [w5]
    rw [this]
    refine split_join e3 k3 (by unfold marksOf; simp) fun p hp => ?_
    unfold marksOf prs at hp
    rcases List.mem_cons.mp hp with rfl | hp
    · rw [tl_nil]
      simp
    · obtain ⟨q, hq, hp⟩ := List.mem_flatMap.mp hp
      rcases List.mem_append.mp hq with hq | hq
      · obtain ⟨z, hz, rfl⟩ := List.mem_map.mp hq
        rcases List.mem_cons.mp hp with rfl | hp
        · rw [w4]; decide
        · rw [List.mem_singleton.mp hp]
          exact name_free (n.i.2 z hz) (by decide)
      · obtain ⟨z, hz, rfl⟩ := List.mem_map.mp hq
        rcases List.mem_cons.mp hp with rfl | hp
        · rw [w5]; decide
        · rw [List.mem_singleton.mp hp]
          exact name_free (n.k.2 z hz) (by decide)
theorem T.Names.small {t : T} (n : t.Names) : t.Small :=
  ⟨name_len n.nm, ⟨n.c.1, fun z hz => name_len (n.c.2 z hz)⟩, ⟨n.i.1, fun z hz => name_len (n.i.2 z hz)⟩, ⟨n.k.1, fun z hz => name_len (n.k.2 z hz)⟩⟩
theorem line_len {t : T} (sm : t.Small) : (lineOf t).length ≤ 1000 := by
  have a8 := addK_len (s := addI (headOf t) t.is) sm.k.2
  have b8 := addI_len (s := headOf t) sm.i.2
  have i8 := sm.i.1
  have k8 := sm.k.1
  have q1 : (Str.ofString "table ").length = 6 := by decide +kernel
  have q2 : (Str.ofString " (").length = 2 := by decide +kernel
  have q3 : (Str.ofString ")").length = 1 := by decide +kernel
  have q4 : (Str.ofString ", ").length = 2 := by decide +kernel
  have j1 := join_len (Str.ofString ", ") t.cs
  have s3 := sum_le sm.c.2
  have c8 := sm.c.1
  have n8 := sm.nm
  rw [q4] at j1
  have hl : (headOf t).length ≤ 100 := by
    unfold headOf
    rw [Str.length_append, Str.length_append, Str.length_append, Str.length_append, q1, q2, q3]
    omega
  show (addK (addI (headOf t) t.is) t.ks).length ≤ 1000
  omega
/-- no line feed in a line -/
theorem line_free {t : T} (n : t.Names) : 10 ∉ tl (lineOf t) := by
  have w1 : tl (Str.ofString "table ") = [116, 97, 98, 108, 101, 32] := by decide +kernel
  have e1 : tl (Str.ofString " (") = [32, 40] := by decide +kernel
  have e2 : tl (Str.ofString ")") = 41 :: [] := by decide +kernel
  have e4 : tl (Str.ofString ", ") = 44 :: [32] := by decide +kernel
  have w6 : tl (Str.ofString " index ") = 32 :: ([105, 110, 100, 101, 120] ++ [32]) := by decide +kernel
  have w7 : tl (Str.ofString " key ") = 32 :: ([107, 101, 121] ++ [32]) := by decide +kernel
  rw [line_cut]
  simp only [tl_append, back_tl, List.mem_append, w1, e1, e2, w6, w7]
  rintro (((h | h) | h) | (h | h) | (h | h))
  · exact absurd h (by decide)
  · exact name_free n.nm (by decide) h
  · exact absurd h (by decide)
  · exact join_free (by rw [e4]; decide) (fun p hp => name_free (n.c.2 p hp) (by decide)) h
  · exact absurd h (by decide)
  · obtain ⟨z, hz, h⟩ := List.mem_flatMap.mp h
    rcases List.mem_append.mp h with h | h
    · exact absurd h (by decide)
    · exact name_free (n.i.2 z hz) (by decide) h
  · obtain ⟨z, hz, h⟩ := List.mem_flatMap.mp h
    rcases List.mem_append.mp h with h | h
    · exact absurd h (by decide)
    · exact name_free (n.k.2 z hz) (by decide) h
def wholeOf (us : List T) : Str := Txt.join (Str.ofString "\n") (us.map lineOf)
theorem whole_lines {us : List T} (h : ∀ t ∈ us, t.Names) : linesOf (wholeOf us) = us.map lineOf := by
  have e : tl (Str.ofString "\n") = 10 :: [] := by decide +kernel
  have k : (Str.ofString "\n").cps.all (· < 256) = true := by decide +kernel
  unfold linesOf wholeOf
  match us, h with
  | [], _ => exact if_pos (by decide +kernel)
  | t :: us, h =>
    rw [if_neg, split_join e k (by simp)]
    · intro p hp
      obtain ⟨z, hz, rfl⟩ := List.mem_map.mp hp
      exact line_free (h z hz)
    · intro z
      have z2 := congrArg tl z
      rw [List.map_cons, join_cons, line_cut, tl_nil] at z2
      have w1 : tl (Str.ofString "table ") = [116, 97, 98, 108, 101, 32] := by decide +kernel
      simp [tl_append, w1] at z2
theorem whole_len {us : List T} (h : ∀ t ∈ us, t.Small) (l : us.length ≤ 5) : (wholeOf us).length ≤ 100000 := by
  have q1 : (Str.ofString "\n").length = 1 := by decide +kernel
  have j := join_len (Str.ofString "\n") (us.map lineOf)
  have s := sum_le (zs := us.map lineOf) (b := 1000) fun z hz => by
    obtain ⟨x, hx, rfl⟩ := List.mem_map.mp hz
    exact line_len (h x hx)
  rw [List.length_map] at s j
  rw [q1] at j
  unfold wholeOf
  omega
end K03

set_option Elab.async false
set_option maxRecDepth 100000
set_option linter.unusedVariables false
/-! class methods, by place and by name; a class in a name called with a star -/
namespace Own
open PySem PySem.Spec PyProof.Rows L2
section
variable {X : Cx} {Z : CXT} {k i : Nat} {f C : Addr} {sp : Sp} {E : XK} {x : Str} {e : Expr} {te : TE} {p sp_ pos : Pos}
/-- x(*e), x a name that holds the class at C -/
def tMkS (K : PySem.W.Frag) (i : Nat) (C : Addr) (sp : Sp) (E : XK) (te : TE) : TE := fun σ H Q => σ[i]? = some (some (.ref C)) ∧ te σ H fun y H1 => ∃ a xs, y = V.ref a ∧ (SqT K H1 a xs ∨ SqL K H1 a xs) ∧
  ∀ x dx, H1 x = none → H1 dx = none → dx ≠ x → sp (V.ref x :: xs) (upd (upd H1 dx (.own x)) x (.ins C dx [])) (fun v H2 => v = .non ∧ Q (.ref x) H2) E
theorem k_mkS {K : PySem.W.Frag} {σ : L2.St} {H : Hp} {Q : VK} (hi : σ[i]? = some (some (.ref C))) (h : te σ H fun y H1 => ∃ a xs, y = V.ref a ∧ (SqT K H1 a xs ∨ SqL K H1 a xs) ∧
  ∀ x dx, H1 x = none → H1 dx = none → dx ≠ x → sp (V.ref x :: xs) (upd (upd H1 dx (.own x)) x (.ins C dx [])) (fun v H2 => v = .non ∧ Q (.ref x) H2) E) : tMkS K i C sp E te σ H Q := ⟨hi, h⟩
theorem pe_makeS (M : Mk X.K C f) (F : FnR X.prog X.w X.K X.mg X.base Z k f sp) (hr : Room (k + 1) X.A) (px : Passes Z X E) (hN : X.N[i]? = some x) (hv : Vis X.env.scope x) (he : PE X e te)
    (hdb : (x == ("__debug__" : Str)) = false := by decide) (hcd : (x == ("__classdict__" : Str)) = false := by decide) (hst : starEach [.Starred e sp_] X.env = [(true, eval e X.env)] := by rfl) :
    PE X (.Call (.Name x p) [.Starred e sp_] [] pos) (tMkS X.K i C sp E te) := by
  refine ⟨fun pins s σ H Q I h => ?_⟩
  obtain ⟨hs, ht⟩ := h
  refine wpAny_Call_Name_kw (thn ((pe_var (pos := p) hN hv hdb hcd).run pins s σ H (fun v H1 => v = .ref C ∧ H1 = H) I ⟨.ref C, hs, rfl, rfl⟩) fun u s1 ⟨v, H1, I1, r1, q1⟩ => ?_)
  obtain ⟨rfl, rfl⟩ := q1
  cases r1
  refine PySem.W.callWith_S (h₀ := X.base) I.ok.mod.kin M.kp (thn (he.run pins s1 σ _ _ I1 ht) fun v s2 ⟨y, H2, I2, ry, a, xs, ey, hxs, q⟩ => ?_) hst
  subst ey
  obtain rfl : v = Value.ref a := ry
  exact StX.star_any I2 hxs fun us s3 I3 rv => ⟨I3.kIn, StX.run_makeR M F hr px I3 rv q⟩
end
section
variable {X : Cx} {Z : CXT} {k n : Nat} {C p g : Addr} {mc : Value} {fd : FuncData} {ps ks : List Str} {sp : Sp} {E : L2.St → XK} {o e : Expr} {es : List Expr} {kws : List Keyword} {m : Str} {pos apos : Pos} {ta : TE} {t tk : TA} {pl : Sem Bool}
  {gg : List Value → List Value → List Value} {gV : List V → List V → List V}
/-- C.m(e, ..), which may raise -/
def tCMS (C : Addr) (sp : Sp) (E : L2.St → XK) (ta : TE) (t : TA) : TE := fun σ H Q => ta σ H fun x H1 => x = .ref C ∧ t σ H1 fun vs H2 => sp (.ref C :: vs) H2 Q (E σ)
theorem k_cms {σ : L2.St} {H : Hp} {Q : VK} (h : ta σ H fun x H1 => x = .ref C ∧ t σ H1 fun vs H2 => sp (.ref C :: vs) H2 Q (E σ)) : tCMS C sp E ta t σ H Q := h
theorem run_cmS {pins : List (Addr × Obj)} {σ : L2.St} {H : Hp} {s : Shared} {q : Addr} {Q : VK} {us : List Value} {vs : List V} (F : FnR X.prog X.w X.K X.mg X.base Z k g sp) (hr : Room k X.A) (hx : PassesAt Z X σ (E σ))
    (I : Inv X ((q, PySem.W.methodObj (.ref g) (.ref C)) :: pins) σ H s) (r : Vals vs us) (h : sp (.ref C :: vs) H Q (E σ)) : wpAny (model X.prog X.w) X.A (call (.ref q) us) (EP X pins σ Q) X.xe s := by
  have z : wpAny (model X.prog X.w) X.A (call (.ref q) us) (EP X ((q, PySem.W.methodObj (.ref g) (.ref C)) :: pins) σ Q) X.xe s := by
    refine wpAny_call (PySem.W.method_call (ClX.pin_at I) (codeAny_mono (F X.A X.stack s H (.ref C :: us) (.ref C :: vs) Q (E σ) hr I.env0 (.cons rfl r) h) fun r s' hq => ?_))
    match r, hq with
    | .error e, hq => exact hx _ H s e s' I hq
    | .ok (.ret u), hq => exact I.after hq
    | .ok .next, hq => exact hq.elim
    | .ok .brk, hq => exact hq.elim
    | .ok .cont, hq => exact hq.elim
  exact thn z fun _ _ y => ClX.unpinE y
theorem pe_cmS (he : PE X o ta) (r : ClX.CRead X.K C mc) (c : ClX.CMet X.K C mc m p g) (F : FnR X.prog X.w X.K X.mg X.base Z k g sp) (hr : Room k X.A) (hx : ∀ σ, PassesAt Z X σ (E σ)) (ha : PA X (e :: es) t)
    (hst : starEach (e :: es) X.env = (false, eval e X.env) :: starEach es X.env := by rfl) (hpl : (backTo pos (starEach es X.env)).any (·.1) = false := by rfl)
    (ht : eval (.Call (.Attribute o m apos) (e :: es) [] pos) X.env = (do
      let ov ← eval o X.env
      standAt apos.atName
      let (f, first) ← holding [ov] (getMethod ov m pl)
      callWith pos f first (backTo pos (starEach (e :: es) X.env)) (backToKw pos (keywordEach [] X.env))) := by rfl) :
    PE X (.Call (.Attribute o m apos) (e :: es) [] pos) (tCMS C sp E ta t) := by
  refine ⟨fun pins s σ H Q I h => ?_⟩
  refine PySem.W.methodCall_KW (pl := pl) (thn (he.run pins s σ H _ I h) fun u s1 ⟨x, H1, I1, rx, ex, q⟩ => ?_) ht
  subst ex
  obtain rfl : u = Value.ref C := rx
  refine ClX.getmethcm_ok I1 r c fun s2 I2 => ?_
  refine ClX.callwith_cm I2 (ClX.base_none I1 (Nat.le_refl _)) c.fi (thn (ha.run pos _ s2 σ H1 _ I2 q) fun us s3 ⟨vs, H2, I3, rv, q2⟩ => ⟨⟨ClX.pin_at I3, I3.kIn⟩, ?_⟩) hst hpl
  exact run_cmS F hr (hx σ) I3 rv q2
/-- C.m(k = v, ..) -/
def tCMK (C : Addr) (n mm : Nat) (sp : Sp) (gV : List V → List V → List V) (E : L2.St → XK) (ta : TE) (tk : TA) : TE := fun σ H Q => ta σ H fun x H1 => x = .ref C ∧ tk σ H1 fun zs H2 => [V.ref C].length = n ∧ zs.length = mm ∧ sp (gV [V.ref C] zs) H2 Q (E σ)
theorem k_cmk {mm : Nat} {σ : L2.St} {H : Hp} {Q : VK} (h : ta σ H fun x H1 => x = .ref C ∧ tk σ H1 fun zs H2 => [V.ref C].length = n ∧ zs.length = mm ∧ sp (gV [V.ref C] zs) H2 Q (E σ)) : tCMK C n mm sp gV E ta tk σ H Q := h
theorem pe_cmK0 (he : PE X o ta) (r : ClX.CRead X.K C mc) (c : ClX.CMet X.K C mc m p g) (F : FnOk X.prog X.w X.K X.mg X.base Z k g fd ps sp) (hr : Room k X.A) (kb : KBn X.K fd ps n ks gg gV) (hx : ∀ σ, PassesAt Z X σ (E σ))
    (pk : PK X kws tk) (all : (backToKw pos (keywordEach kws X.env)).all (·.1.isSome) = true := by rfl) (nm : (backToKw pos (keywordEach kws X.env)).filterMap (·.1) = ks := by rfl)
    (pn : ((backTo pos (starEach [] X.env)).any (·.1) || (backToKw pos (keywordEach kws X.env)).any (·.1.isNone)) = false := by rfl)
    (ht : eval (.Call (.Attribute o m apos) [] kws pos) X.env = (do
      let ov ← eval o X.env
      standAt apos.atName
      let (f, first) ← holding [ov] (getMethod ov m pl)
      callWith pos f first (backTo pos (starEach [] X.env)) (backToKw pos (keywordEach kws X.env))) := by rfl) :
    PE X (.Call (.Attribute o m apos) [] kws pos) (tCMK C n ks.length sp gV E ta tk) := by
  refine ⟨fun pins s σ H Q I h => ?_⟩
  refine PySem.W.methodCall_KW (pl := pl) (thn (he.run pins s σ H _ I h) fun u s1 ⟨x, H1, I1, rx, ex, q⟩ => ?_) ht
  subst ex
  obtain rfl : u = Value.ref C := rx
  refine ClX.getmethcm_ok I1 r c fun s2 I2 => ?_
  refine PySem.W.callWith_of (P := PySem.W.MethP X.K s1.heap.objs.size g (.ref C)) pn (PySem.W.keeps_M c.fi) (PyProof.Rows.evalArgs_kw2_nil all (thn (pk.run pos _ s2 σ H1 _ I2 q) fun ws s3 ⟨zs, H2, I3, rz, l1, l2, q2⟩ => ⟨⟨ClX.pin_at I3, I3.kIn⟩, ?_⟩))
  rw [nm]
  have z : wpAny (model X.prog X.w) X.A (call (.ref s1.heap.objs.size) [] (ks.zip ws)) (EP X ((s1.heap.objs.size, PySem.W.methodObj (.ref g) (.ref C)) :: pins) σ Q) X.xe s3 := by
    have rv : Vals [V.ref C] [Value.ref C] := .cons rfl .nil
    have rr := kb.rel rv rz
    refine wpAny_call (PySem.W.method_call (ClX.pin_at I3) (codeAny_mono (F.run X.A X.stack s3 H2 ⟨[.ref C], ks.zip ws⟩ (gg [.ref C] ws) (gV [.ref C] zs) Q (E σ) hr I3.env0 (kb.to s3 [.ref C] ws I3.kIn (rv.length.symm.trans l1) (rz.length.symm.trans l2)) rr q2) fun r s' hq => ?_))
    match r, hq with
    | .error e, hq => exact hx σ _ H2 s3 e s' I3 hq
    | .ok (.ret u), hq => exact I3.after hq
    | .ok .next, hq => exact hq.elim
    | .ok .brk, hq => exact hq.elim
    | .ok .cont, hq => exact hq.elim
  exact thn z fun _ _ y => ClX.unpinE y
end
end Own

set_option Elab.async false
set_option maxRecDepth 100000
set_option linter.unusedVariables false
/-! sorted(t), t a tuple of data; lists and tuples of texts -/
namespace Own
open PySem PySem.Spec PyProof.Rows L2
section
variable {X : Cx}
open PySem.W PySem.Calls in
theorem sorted_seq {prog : Program} {w : World} {A : Around} {E : Value → Shared → Prop} {s : Shared} {β : Type} {vs : List Value} {bs : List β} {enc : β → PyData} {R : Value → β → Prop} {l : Addr} {T : String} {o : Obj} {n : Nat} {Q : Value → Shared → Prop} (hT : T = "list" ∨ T = "tuple")
    (ho : s.heap.get? l = some o) (hc : o.cls = .type T) (hd : o.data = .seq vs.toArray n) (e : EachIs R vs bs) (er : EachIs (fun v b => ∃ as, Reads s.heap v (enc b) as) vs bs) (hal : AllAlike (bs.map enc)) (hk : Sortable (bs.map enc)) (hL : bs.length ≤ sizeLine)
    (hu : ∀ b, b ∈ bs → A.units + 2 + (enc b).depth < cLine)
    (h : ∀ (h1 h2 : Heap) (out : List Value) (m : Nat), (∀ b ob, s.heap.get? b = some ob → h1.get? b = some ob) → (∀ b ob, h1.get? b = some ob → h2.get? b = some ob) → h2.get? h1.objs.size = some (seqObj "list" out.toArray m) → out.length = bs.length → EachIs R out (bs.mergeSort (dataLe false enc)) → Q (.ref h1.objs.size) { s with heap := h2 }) :
    wpAny (model prog w) A (call (.builtin "sorted") [.ref l]) Q E s := by
  have hvs : vs.length ≤ sizeLine := by rw [e.length]; exact hL
  refine call_function_entry_kw kind_sorted plain_sorted entry_sorted (args_sorted1 _) ?_
  unfold Builtin.«sorted»
  refine wpAny_bind (m := checkCount "sorted" 1 1 _) (wpAny_pure ?_)
  refine wpAny_bind (wpAny_collect_seq l hT ho hc hd (fun h1 hk1 => ?_) (by rw [List.size_toArray]; exact hvs))
  refine wpAny_bind (wpAny_newList ?_ (by simpa using hvs))
  have at_ : (h1.push (seqObj "list" vs.toArray 0)).get? h1.objs.size = some (seqObj "list" vs.toArray 0) := Heap.get?_push_size _ rfl
  have old : ∀ b ob, h1.get? b = some ob → (h1.push (seqObj "list" vs.toArray 0)).get? b = some ob := fun b ob q => Heap.get?_push_of_some _ q
  have er' : EachIs (fun v b => ∃ as, Reads (sortingHeap (h1.push (seqObj "list" vs.toArray 0)) h1.objs.size vs) v (enc b) as) vs bs := er.mono fun _ _ ⟨as, r⟩ => ⟨as, PyProof.Rows.Reads.keeps (fun b ob q =>
    sortingHeap_old (Nat.ne_of_lt (Heap.lt_size (hk1 b ob q))) (old b ob (hk1 b ob q))) r⟩
  refine wpAny_bind (wpAny_holding (wpAny_call_entry_kw slot_list_sort ⟨_, at_, rfl⟩ entry_list_sort ?body (args_list_sort _)))
  case body =>
    show wpAny (model prog w) A.in1.in1 (Builtin.«list.sort» ⟨[.ref h1.objs.size], []⟩) _ _ { s with heap := h1.push (seqObj "list" vs.toArray 0) }
    refine wpAny_mono (Q := fun f s' => f = .done (.ret .none) ∧ s' = { s with heap := sortedHeap (h1.push (seqObj "list" vs.toArray 0)) h1.objs.size vs (sortVals (dataKind (sortingHeap (h1.push (seqObj "list" vs.toArray 0)) h1.objs.size vs) (bs.map enc)) false vs vs).toArray }) (list_sort_vals (s := { s with heap := h1.push (seqObj "list" vs.toArray 0) }) at_ (SortsAt.data (s := { s with heap := sortingHeap (h1.push (seqObj "list" vs.toArray 0)) h1.objs.size vs }) (each_map (R := fun v d => ∃ as, Reads (sortingHeap (h1.push (seqObj "list" vs.toArray 0)) h1.objs.size vs) v d as) enc er') hal hk (bound_map hu)) hvs ⟨rfl, rfl⟩) (fun f s' hf => ?_) fun _ _ z => z
    obtain ⟨rfl, rfl⟩ := hf
    refine ⟨_, rfl, wpAny_pure ⟨_, rfl, ?_⟩⟩
    obtain ⟨m, hm⟩ := sortedHeap_at (out := (sortVals (dataKind (sortingHeap (h1.push (seqObj "list" vs.toArray 0)) h1.objs.size vs) (bs.map enc)) false vs vs).toArray) at_
    exact h h1 _ _ m hk1 (fun b ob q => (sortedHeap_old (Nat.ne_of_lt (Heap.lt_size q)) (by rw [size_push']; exact Nat.lt_succ_of_lt (Heap.lt_size q))).trans (old b ob q)) hm (by rw [sortVals_length false rfl]; exact e.length) (sortVals_data false e er' hal)
/-- sorted(x), x a list or a tuple of data -/
def rSortedA (K : PySem.W.Frag) : List V → Hp → VK → Prop := fun xs H Q => ∃ (a : Addr) (bs : List (V × PyData)), xs = [.ref a] ∧ (SqL K H a (bs.map (·.1)) ∨ SqT K H a (bs.map (·.1))) ∧ (∀ b ∈ bs, Dp K H b.1 b.2 ∧ b.2.depth ≤ 50) ∧ PySem.W.AllAlike (bs.map (·.2)) ∧ PySem.W.Sortable (bs.map (·.2)) ∧ bs.length ≤ 1000 ∧
  ∀ p, H p = none → Q (.ref p) (upd H p (.lst ((bs.mergeSort (PySem.W.dataLe false fun b : V × PyData => b.2)).map (·.1))))
theorem call_sortedA (hu : X.A.units + 64 < cLine) : CallR X (.builtin "sorted") (rSortedA X.K) := by
  intro pins s σ H xs us Q I r h
  obtain ⟨a, bs, rfl, hs, hd, ha, hk, hz, q⟩ := h
  obtain ⟨u, rfl, ru⟩ := r.one
  obtain rfl : u = Value.ref a := ru
  have hz2 : bs.length ≤ sizeLine := Nat.le_trans hz (by decide)
  have main : ∀ (its : List Value) (T : String) (o : Obj) (n : Nat), (T = "list" ∨ T = "tuple") → s.heap.get? a = some o → o.cls = .type T → o.data = .seq its.toArray n → Vals (bs.map (·.1)) its →
      wpAny (model X.prog X.w) X.A (call (.builtin "sorted") [.ref a]) (EP X pins σ Q) X.xe s := fun its T o n hT ho hc hdt rv => by
    obtain ⟨e1, e2⟩ := eachV I rv fun b hb => (hd b hb).1
    refine sorted_seq (enc := fun b : V × PyData => b.2) hT ho hc hdt e1 e2 ha hk hz2 (fun b hb => ?_) fun h1 h2 out m k1 k2 ho2 lo eo => ?_
    · have := (hd b hb).2
      omega
    · have I1 := I.kept (t' := s.toks) k1
      have fresh : H h1.objs.size = none := I1.hok.fresh (Nat.le_refl _)
      refine ⟨.ref _, _, I1.laid (o := .lst ((bs.mergeSort (PySem.W.dataLe false fun b : V × PyData => b.2)).map (·.1))) (t' := s.toks) k2 (Nat.le_refl _) ⟨?_, out, m, eachVals eo, ho2⟩, rfl, q _ fresh⟩
      rw [List.length_map, List.length_mergeSort]
      exact hz2
  rcases hs with hs | hs
  · obtain ⟨its, rv, hl, _⟩ := I.list hs
    obtain ⟨o, ho, hc, n, hdt⟩ := hl.isList
    exact main its "list" o n (.inl rfl) ho hc hdt rv
  · obtain ⟨its, rv, ht, _⟩ := I.tuple hs
    obtain ⟨o, ho, hc, n, hdt⟩ := ht
    exact main its "tuple" o n (.inr rfl) ho hc hdt rv
end
theorem range_filter {α β : Type} (xs : List α) (p : Nat → Bool) (f : Nat → β) (q : α → Bool) (h : α → β) (e : ∀ k x, xs[k]? = some x → p k = q x ∧ f k = h x) : ((List.range xs.length).filter p).map f = (xs.filter q).map h := by
  have g : ∀ n, n ≤ xs.length → ((List.range n).filter p).map f = ((xs.take n).filter q).map h := by
    intro n
    induction n with
    | zero => intro _; simp
    | succ n ih =>
      intro hn
      have hx : xs[n]? = some xs[n] := List.getElem?_eq_getElem (by omega)
      obtain ⟨e1, e2⟩ := e n _ hx
      rw [List.range_succ, List.filter_append, List.map_append, ih (by omega), List.take_add_one, hx, List.filter_append, List.map_append]
      congr 1
      show ([n].filter p).map f = ([xs[n]].filter q).map h
      cases hp : p n with
      | true => rw [List.filter_cons_of_pos hp, List.filter_cons_of_pos (e1 ▸ hp), List.filter_nil, List.filter_nil, List.map_singleton, List.map_singleton, e2]
      | false => rw [List.filter_cons_of_neg (by rw [hp]; decide), List.filter_cons_of_neg (by rw [← e1, hp]; decide), List.filter_nil, List.filter_nil]; rfl
  have := g xs.length (Nat.le_refl _)
  rw [List.take_length] at this
  exact this
section
variable {K : PySem.W.Frag} {σ : L2.St} {H : Hp} {Q : VK} {tl ta : TA}
theorem k_enumL {R : It → Hp → Prop} (h : ta σ H fun vs H1 => ∃ a xs, vs = [.ref a] ∧ SqL K H1 a xs ∧ R (Ite K a) H1) : iEnum K ta σ H R := h
/-! new objects, told without their heaps -/
theorem upd_tells {H2 : Hp} {p : Addr} {o : HO} (e : upd H p o = H2) (hp : H p = none) : Same H H2 ∧ H2 p = some o := by
  subst e
  exact ⟨Same.upd hp, upd_same⟩
theorem new_tup {xs : List V} (h : ∀ p H2, Same H H2 → H2 p = some (.tup xs) → H p = none → Q (.ref p) H2) : ∀ p, H p = none → Q (.ref p) (upd H p (.tup xs)) := fun p hp => h p _ (Same.upd hp) upd_same hp
theorem new_lst {xs : List V} (h : ∀ p H2, Same H H2 → H2 p = some (.lst xs) → H p = none → Q (.ref p) H2) : ∀ p, H p = none → Q (.ref p) (upd H p (.lst xs)) := fun p hp => h p _ (Same.upd hp) upd_same hp
theorem catT_of {a b : Addr} {xs ys : List V} (ha : H a = some (.tup xs)) (hb : H b = some (.tup ys)) (n1 : xs ≠ []) (n2 : ys ≠ []) (l : xs.length + ys.length ≤ 100000) (h : ∀ p H2, Same H H2 → H2 p = some (.tup (xs ++ ys)) → H p = none → Q (.ref p) H2) : rCatT K (.ref a) (.ref b) H Q :=
  ⟨a, b, xs, ys, rfl, rfl, SqT.of ha, SqT.of hb, n1, Nat.le_trans l (by decide), fun z => absurd z n2, fun _ => new_tup h⟩
theorem catL_of {a b : Addr} {xs ys : List V} (ha : H a = some (.lst xs)) (hb : H b = some (.lst ys)) (l : xs.length + ys.length ≤ 100000) (h : ∀ p H2, Same H H2 → H2 p = some (.lst (xs ++ ys)) → H p = none → Q (.ref p) H2) : rCat (.ref a) (.ref b) H Q :=
  ⟨a, b, xs, ys, rfl, rfl, ha, hb, Nat.le_trans l (by decide), new_lst h⟩
end
end Own

set_option Elab.async false
set_option maxRecDepth 100000
set_option maxHeartbeats 4000000
set_option linter.unusedVariables false
namespace K03
open PySem PySem.Spec PyProof.Rows L2 Own
-- steps
local macro_rules | `(tactic| walk_at "lk") => `(tactic| first
  | assumption | exact upd_same
  | ((with_reducible refine' lk_new ?e (by assumption)); (case e => walk_at "lk"))
  | ((with_reducible refine' lk_ext (by assumption) ?e); (case e => walk_at "lk"))
  | ((with_reducible refine' lk_same (by assumption) ?e); (case e => walk_at "lk")))
local macro_rules | `(tactic| walk_at "sq") => `(tactic| first | assumption | exact SqL.of (by walk_at "lk") | exact SqT.of (by walk_at "lk"))
local macro_rules | `(tactic| walk_at "r1") => `(tactic| first
  | with_reducible refine k_seq ?_ | with_reducible refine k_asg ?_ | with_reducible refine k_ret ?_ | with_reducible refine k_drop ?_ | with_reducible refine k_next ?_ | with_reducible refine k_ifS ?_
  | ((with_reducible refine' k_var ?e ?_); (case e => exact rfl)) | with_reducible refine k_c ?_ | with_reducible refine k_op ?_ | with_reducible refine k_un ?_ | with_reducible refine k_test ?_ | with_reducible refine k_B ?_
  | with_reducible refine k_and ?_ | with_reducible refine k_or ?_ | with_reducible refine k_not ?_ | with_reducible refine k_andV ?_ | with_reducible refine k_orV ?_ | with_reducible refine k_notV ?_ | with_reducible refine k_if ?_
  | with_reducible refine k_nil ?_ | with_reducible refine k_cons ?_ | with_reducible refine k_tup ?_ | with_reducible refine k_lst ?_ | with_reducible refine k_call ?_ | with_reducible refine k_cb ?_ | with_reducible refine k_ck ?_
  | with_reducible refine k_par ?_ | with_reducible refine k_par1 ?_ | with_reducible refine k_tr ?_ | with_reducible refine k_rI0 ?_ | with_reducible refine k_rU ?_
  | with_reducible refine k_gN ?_ | with_reducible refine k_gS ?_ | with_reducible refine k_gNil ?_ | with_reducible refine k_gCons ?_ | with_reducible refine k_bm0 ?_ | with_reducible refine k_bm ?_
  | with_reducible refine k_for ?_ | with_reducible refine k_iL ?_ | with_reducible refine k_iT ?_ | with_reducible refine k_iR1 ?_ | ((with_reducible refine k_iR1i ?e ?_); (case e => first | decide | exact ⟨by omega, by omega⟩))
  | with_reducible refine k_max ?_ | with_reducible refine k_isB ?_ | with_reducible refine k_sl ?_ | with_reducible refine k_noP ?_ | with_reducible refine k_part ?_ | with_reducible refine k_partI ?_ | with_reducible refine k_revL ?_
  | ((with_reducible refine' k_ixqT ?e ?f ?_); (case e => walk_at "sq"); (case f => first | exact rfl | exact atI_head))
  | ((with_reducible refine' k_ixqL ?e ?f ?_); (case e => walk_at "sq"); (case f => first | exact rfl | exact atI_head))
  | ((with_reducible refine' k_lenL ?e ?_); (case e => walk_at "sq"))
  | ((with_reducible refine' k_lenT ?e ?_); (case e => walk_at "sq"))
  | ((with_reducible refine' k_ixL ?e ?f ?_); (case e => walk_at "sq"); (case f => first | exact rfl | exact atI_head))
  | ((with_reducible refine' k_ixT ?e ?f ?_); (case e => walk_at "sq"); (case f => first | exact rfl | exact atI_head))
  | ((with_reducible refine k_eq ?e ?_); (case e => exact rfl)) | ((with_reducible refine k_ne ?e ?_); (case e => exact rfl))
  | ((with_reducible refine k_rI ?e ?_); (case e => first | assumption | omega | decide | exact ⟨by omega, by omega⟩ | exact .inl ⟨by omega, by omega⟩ | exact .inr ⟨by omega, by omega⟩)))
local macro_rules | `(tactic| walk_at "rd") => `(tactic| repeat walk_at "r1")
local macro_rules | `(tactic| walk_at "r2") => `(tactic| first
  | walk_at "r1"
  | with_reducible refine k_ifTt ?_ | with_reducible refine k_ifFf ?_ | with_reducible refine k_ifNt ?_ | with_reducible refine k_ifNf ?_
  | with_reducible refine k_makeR ?_ | with_reducible refine k_tJ ?_ | with_reducible refine k_tJc ?_ | with_reducible refine k_tJn ?_ | with_reducible refine k_fmt ?_ | with_reducible refine k_lc ?_ | with_reducible refine k_din ?_ | with_reducible refine k_fld ?_ | with_reducible refine k_dget ?_
  | with_reducible refine k_dput ?_
  | with_reducible refine k_isNv ?_
  | with_reducible refine k_notNv ?_
  | with_reducible refine k_str ?_
  | with_reducible refine k_enumT ?_
  | with_reducible refine k_zipA ?_
  | with_reducible refine k_chain ?_
  | ((with_reducible refine' k_dgS ?e dkv_cells ?_); (case e => walk_at "lk"))
  | ((with_reducible refine' k_dgS ?e dkv_mixed ?_); (case e => walk_at "lk"))
  | ((with_reducible refine' k_dgS ?e dkv_turn ?_); (case e => walk_at "lk")))
local macro_rules | `(tactic| walk_at "rr") => `(tactic| repeat walk_at "r2")
-- steps end
section
variable {P : Program} {w : World} {K : PySem.W.Frag} {mg : Str → Option Value} {base : Heap} {C N : Addr}
abbrev s__read_tables : Stmt := top 19
theorem sc__read_tables : FnScope ["lines", "tables", "at", "line", "table"] ["lines"] (defScope s__read_tables) :=
  ⟨rfl, rfl, rfl, by decide +kernel, rfl, by decide +kernel, by decide +kernel⟩
abbrev s_Schema_read : Stmt := inClass (top 14) 3
theorem sc_Schema_read : FnScope ["cls", "text", "tables"] ["cls", "text"] (defScope s_Schema_read) :=
  ⟨rfl, rfl, rfl, by decide +kernel, rfl, by decide +kernel, by decide +kernel⟩
def Reads (us : List T) : Prop := us.length ≤ 5 ∧ (∀ t ∈ us, t.Names ∧ 1 ≤ t.cs.length) ∧ (us.map (·.nm)).Pairwise sLt
def spReadTs : Sp := fun vs H Q _ => ∃ (l : Addr) (us : List T), vs = [.ref l] ∧ H l = some (.lst ((us.map lineOf).map V.str)) ∧ Reads us ∧
  ∀ (ats : List AT) r H', ats.map (·.2) = us → (∀ x ∈ ats, TAt H' x.1 x.2) → Same H H' → H' r = some (.lst (refsOf ats)) → Q (.ref r) H'
theorem ok_readTs {f : Addr} {fd : FuncData} (F : Fun K "_read_tables" "_read_tables" s__read_tables f fd) (C__read_table : CalF P w K mg base "_read_table" 2 ["line"] spReadT) (z_enumerate : mg "enumerate" = none) :
    FnOk P w K mg base CX0 3 f fd ["lines"] spReadTs := by
  have nd := sc__read_tables.nd
  refine F.ok sc__read_tables (fun vs H Q E h => ?_) (fun cdv A up s H vs Q E hr h => ?_)
  · obtain ⟨l, us, rfl, _⟩ := h
    rfl
  · obtain ⟨l, us, rfl, hl, ⟨l5, nn, asc⟩, k⟩ := h
    refine ⟨_, (pss_cons (ps_set (i := 1) nd rfl (Or.inl rfl) (pe_lst pa_nil))
        (pss_cons (ps_for PassesOwn.never rfl (pi_enum (by rfl) z_enumerate (pa_cons (pv 0) pa_nil)) (pg_tup rfl (pgs_cons (pg_name (i := 2) nd rfl (Or.inl rfl)) (pgs_cons (pg_name (i := 3) nd rfl (Or.inl rfl)) pgs_nil))) (pss_cons (ps_set (i := 4) nd rfl (Or.inl rfl) (pe_cf C__read_table (hr.mono (by decide)) (pa_cons (pv 3) pa_nil)))
        (pss_cons (ps_if (PW.pt (pw_or (pt_cmpR op_isN (pv 4) pe_non (nomark _)) (pw_or1 (PW.pt (pw_and (pt_truth (pv 1) (by intro _; rfl)) (pw_and1 (pt_cmpR op_le_str (pe_ix ix_tup (pv 4) pe_int (fun _ _ => rfl)) (pe_ix ix_tup (pe_ix ix_list (pv 1) (pe_un un_neg pe_int) (fun _ _ => rfl)) pe_int (fun _ _ => rfl)) (nomark _)))))))) (pss_one ps_nope) pss_nil)
        (pss_one (ps_expr (pe_bm PySem.F.plainAttrs_list PySem.F.slot_list_append PySem.F.type_list_append mt_append (pv 1) (pa_cons (pv 4) pa_nil)))))))
        (pss_one (ps_ret (pv 1))))), ?_⟩
    walk_at "rr"
    refine ⟨k_sz rfl, fun r hr2 => ?_⟩
    walk_at "rr"
    have nrl : r ≠ l := fun z => by rw [z, hl] at hr2; cases hr2
    let Pv : Nat → L2.St → Hp → Prop := fun i σ H' => ∃ (ats : List AT) (o1 o2 o3 : Option V), σ = [some (.ref l), some (.ref r), o1, o2, o3] ∧ ats.map (·.2) = us.take i ∧ (∀ x ∈ ats, TAt H' x.1 x.2) ∧ Same H H' ∧ H' r = some (.lst (refsOf ats))
    refine k_enumL ?_
    walk_at "rr"
    refine ⟨l, _, rfl, SqL.of (Same.upd hr2 _ _ hl), for_it (walk_enum (xs := (us.map lineOf).map V.str)) Pv ⟨[], none, none, none, rfl, rfl, (fun x hx => by cases hx), Same.upd hr2, upd_same⟩ (fun i σ H' _ h => ?_) (fun i x σ H' H'' hi h y => ?_) (fun σ H' h => ?_)⟩
    · obtain ⟨ats, o1, o2, o3, rfl, e, ha, s1, h1⟩ := h
      exact SqL.of (s1 _ _ hl)
    · obtain ⟨ats, o1, o2, o3, rfl, e, ha, s1, h1⟩ := h
      obtain ⟨t1, x1, x2, rfl, ht1, rfl, e1, e2⟩ := y
      have e1 : V.int i = x1 := Option.some.inj e1
      have e2 : ((us.map lineOf).map V.str)[i]? = some x2 := e2
      rw [List.map_map, List.getElem?_map] at e2
      obtain ⟨t, ht, rfl⟩ := Option.map_eq_some_iff.mp e2
      subst e1
      obtain ⟨tn, tc⟩ := nn t (List.mem_of_getElem? ht)
      refine k_gTup (SqT.of upd_same) rfl ?_
      walk_at "rr"
      refine ⟨t, rfl, tn, cuts_of tn tc, line_len tn.small, fun a H2 s2 ta => ?_⟩
      have s12 := (Same.upd (o := .tup [V.int i, V.str (lineOf t)]) ht1).trans s2
      have h2 := s12 _ _ h1
      walk_at "rr"
      refine ⟨rfl, _, rfl, ?_⟩
      rw [decide_eq_false (show ¬ V.ref a = V.non from fun z => by cases z)]
      walk_at "rr"
      have la : ats.length = i := by
        have := congrArg List.length e
        have hi2 : i < us.length := (List.getElem?_eq_some_iff.mp ht).1
        rw [List.length_map, List.length_take] at this
        omega
      have put : ∀ σ', σ' = [some (V.ref l), some (V.ref r), some (V.int i), some (V.str (lineOf t)), some (V.ref a)] → Pv (i + 1) σ' (upd H2 r (.lst (refsOf ats ++ [V.ref a]))) := fun σ' es => by
        refine ⟨ats ++ [(a, t)], _, _, _, es, ?_, ?_, ?_, ?_⟩
        · rw [List.map_append, e, List.take_add_one, ht]
          rfl
        · intro x hx
          have nr : ∀ {b : Addr} {xs : List V}, H2 b = some (.tup xs) → (upd H2 r (.lst (refsOf ats ++ [V.ref a]))) b = some (.tup xs) := fun {b xs} hb => (upd_ne fun z => by rw [z, h2] at hb; cases hb).trans hb
          have up : ∀ {b : Addr} {u : T}, TAt H2 b u → TAt (upd H2 r (.lst (refsOf ats ++ [V.ref a]))) b u := fun {b u} h => by
            obtain ⟨c, i, k, g1, g2, g3, g4⟩ := h
            exact ⟨c, i, k, nr g1, nr g2, nr g3, nr g4⟩
          rcases List.mem_append.mp hx with hx | hx
          · exact up ((ha x hx).same s12)
          · rw [List.mem_singleton.mp hx]
            exact up ta
        · exact same_off (s1.trans s12) hr2
        · rw [upd_same]
          unfold refsOf
          rw [List.map_append]
          rfl
      have sz : (refsOf ats).length < sizeLine := by
        unfold refsOf
        have hi2 : i < us.length := (List.getElem?_eq_some_iff.mp ht).1
        rw [List.length_map, sizeLine_eq]
        omega
      refine ⟨_, .inl ⟨_, SqL.of h2, rfl⟩, ?_⟩
      match ats, e, ha, h1, h2, la, put, sz with
      | [], e, ha, h1, h2, la, put, sz =>
        refine k_ifFf ?_
        walk_at "rr"
        refine ⟨.inl ⟨rfl, _, SqL.of h2⟩, ?_⟩
        walk_at "rr"
        refine ⟨r, _, _, rfl, rfl, h2, sz, ?_⟩
        exact put _ rfl
      | x :: ats, e, ha, h1, h2, la, put, sz =>
        obtain ⟨zs, y, ez⟩ : ∃ zs y, x :: ats = zs ++ [y] := by
          rcases List.eq_nil_or_concat (x :: ats) with z | ⟨zs, y, ez⟩
          · cases z
          · exact ⟨zs, y, by rw [ez, List.concat_eq_append]⟩
        have hy : (x :: ats)[i - 1]? = some y := by
          rw [ez] at la ⊢
          rw [List.length_append, List.length_singleton] at la
          rw [show i - 1 = zs.length from by omega]
          simp
        have lasty : atI (refsOf (x :: ats)) (-1) = some (V.ref y.1) := by
          rw [ez]
          unfold refsOf
          rw [List.map_append]
          exact atI_last _ _
        have pos : 0 < i := by rw [← la]; simp
        have ym := List.mem_of_getElem? hy
        have ya := (ha y ym).same s12
        have yt : us[i - 1]? = some y.2 := by
          have : ((x :: ats).map (·.2))[i - 1]? = some y.2 := by rw [List.getElem?_map, hy]; rfl
          rw [e, List.getElem?_take] at this
          rw [if_pos (by omega)] at this
          exact this
        obtain ⟨_, _, _, g1, _⟩ := ta
        obtain ⟨_, _, _, g2, _⟩ := ya
        have lt : sLt y.2.nm t.nm := by
          obtain ⟨l1, e1⟩ := List.getElem?_eq_some_iff.mp yt
          obtain ⟨l2, e2⟩ := List.getElem?_eq_some_iff.mp ht
          have := List.pairwise_iff_getElem.mp asc (i - 1) i (by rw [List.length_map]; exact l1) (by rw [List.length_map]; exact l2) (by omega)
          rw [List.getElem_map, List.getElem_map, e1, e2] at this
          exact this
        refine k_ifTt ?_
        walk_at "rr"
        refine k_ixL (SqL.of h2) lasty ?_
        walk_at "rr"
        refine ⟨_, _, rfl, rfl, ?_⟩
        walk_at "rr"
        rw [decide_eq_true lt]
        walk_at "rr"
        refine ⟨.inl ⟨rfl, _, SqL.of h2⟩, ?_⟩
        walk_at "rr"
        refine ⟨r, _, _, rfl, rfl, h2, sz, ?_⟩
        exact put _ rfl
    · obtain ⟨ats, o1, o2, o3, rfl, e, ha, s1, h1⟩ := h
      rw [List.length_map, List.length_map, List.take_length] at e
      walk_at "rr"
      exact k ats r H' e ha s1 h1
def BadT (us : List T) (i : Nat) : Prop := ∃ t, us[i]? = some t ∧ ¬ t.Ok
def spRead (C N : Addr) : Sp := fun vs H Q E => ∃ us : List T, vs = [.ref C, .str (wholeOf us)] ∧ Reads us ∧
  ((∀ i, ¬ BadT us i) → ∀ p ats H', ats.map (·.2) = us → SchAt C H' p ats ats → Same H H' → Q (.ref p) H') ∧
  (∀ i, BadT us i → (∀ j, j < i → ¬ BadT us j) → ∀ d H', Same H H' → H d = none → H' d = some (.xd [(("part" : Str), V.int i)]) → E (.ref N) (some d) H')
theorem perm_asc {ts zs : List AT} (p : zs.Perm ts) (h : (namesOf zs).Pairwise sLt) (h2 : (namesOf ts).Pairwise sLt) : zs = ts := by
  induction zs generalizing ts with
  | nil => exact p.nil_eq
  | cons a zs ih =>
    match ts, p, h2 with
    | [], p, _ => exact absurd p.length_eq (by simp)
    | b :: ts, p, h2 =>
      have g1 := List.pairwise_cons.mp (show (a.2.nm :: namesOf zs).Pairwise sLt from h)
      have g2 := List.pairwise_cons.mp (show (b.2.nm :: namesOf ts).Pairwise sLt from h2)
      have e : a = b := by
        rcases List.mem_cons.mp (p.mem_iff.mp List.mem_cons_self) with z | m1
        · exact z
        · rcases List.mem_cons.mp (p.mem_iff.mpr List.mem_cons_self) with z | m2
          · exact z.symm
          · exact (List.lt_irrefl _ (List.lt_trans (g1.1 _ (List.mem_map.mpr ⟨b, m2, rfl⟩)) (g2.1 _ (List.mem_map.mpr ⟨a, m1, rfl⟩)))).elim
      subst e
      rw [ih p.cons_inv g1.2 g2.2]
def spMkB (C N : Addr) : Sp := fun vs H Q E => ∃ ws rest, vs = ws ++ rest ∧ ws.length = 1 ∧ rest.length ≤ sizeLine ∧ ∀ p, H p = Option.none → spInitB C N (ws ++ [V.ref p]) (upd H p (.tup rest)) Q E
theorem mk_schB {H1 : Hp} {ts : List AT} {Q : VK} {E : XK} (ht : ∀ x ∈ ts, TAt H1 x.1 x.2 ∧ x.2.Names) (hl : ts.length ≤ 5)
    (k1 : (∀ i, ¬ Bad ts i) → ∀ p dx d t zs H', zs.Perm ts → (namesOf zs).Pairwise sLt → H' p = some (.ins C dx (flds d t)) → H' d = some (.dK (kvsOf ts)) → H' t = some (.tup (refsOf zs)) → Same H1 H' → Q (.ref p) H')
    (k2 : ∀ i, Bad ts i → (∀ j, j < i → ¬ Bad ts j) → ∀ d H', Same H1 H' → H1 d = none → H' d = some (.xd [(("part" : Str), V.int i)]) → E (.ref N) (some d) H') :
    ∀ (x dx : Addr), H1 x = none → H1 dx = none → dx ≠ x → spMkB C N (V.ref x :: refsOf ts) (upd (upd H1 dx (HO.own x)) x (HO.ins C dx [])) (fun v H2 => v = V.non ∧ Q (V.ref x) H2) E := by
  intro x dx hx hdx ne
  have s0 : Same H1 (upd (upd H1 dx (HO.own x)) x (HO.ins C dx [])) := (Same.upd hdx).trans (Same.upd ((upd_ne fun z => ne z.symm).trans hx))
  refine ⟨[.ref x], refsOf ts, rfl, rfl, Nat.le_trans (by unfold refsOf; rw [List.length_map]; exact hl) (by decide), fun u hu => ?_⟩
  have hxx : (upd (upd H1 dx (HO.own x)) x (HO.ins C dx [])) x = some (.ins C dx []) := upd_same
  generalize upd (upd H1 dx (HO.own x)) x (HO.ins C dx []) = H2 at s0 hu hxx ⊢
  have s1 : Same H2 (upd H2 u (.tup (refsOf ts))) := Same.upd hu
  refine ⟨x, dx, u, ts, rfl, s1 _ _ hxx, upd_same, fun y hy => ⟨((ht y hy).1.same s0).same s1, (ht y hy).2⟩, hl, fun good H' d t zs pz az hp hd htt ke => ⟨rfl, ?_⟩, fun i b f d H' s' hd hx2 => ?_⟩
  · exact k1 good x dx d t zs H' pz az hp hd htt fun a o e => ke a o (fun z => by rw [z, hx] at e; cases e) (s1 _ _ (s0 _ _ e))
  · exact k2 i b f d H' ((s0.trans s1).trans s') (same_free s0 (same_free s1 hd)) hx2
theorem ok_read {f fi : Addr} {fd : FuncData} (F : Fun K "read" "Schema.read" s_Schema_read f fd) (S_mk : Mk K C fi) (S_init : FnR P w K mg base (L2.CX P w) 4 fi (spMkB C N))
    (C__read_tables : CalF P w K mg base "_read_tables" 3 ["lines"] spReadTs) (C_lines_of : CalF P w K mg base "lines_of" 1 ["text"] spLines) : FnOk P w K mg base (L2.CX P w) 6 f fd ["cls", "text"] (spRead C N) := by
  have nd := sc_Schema_read.nd
  refine F.okX sc_Schema_read (fun vs H Q E h => ?_) (fun cdv A up s H vs Q E hr h => ?_)
  · obtain ⟨us, rfl, _⟩ := h
    rfl
  · obtain ⟨us, rfl, ⟨l5, nn, asc⟩, k1, k2⟩ := h
    refine ⟨_, (pss_cons (ps_set (i := 2) nd rfl (Or.inl rfl) (pe_cf C__read_tables (hr.mono (by decide)) (pa_cons (pe_cf C_lines_of (hr.mono (by decide)) (pa_cons (pv 1) pa_nil)) pa_nil)))
        (pss_one (ps_ret (pe_makeS (i := 0) S_mk S_init (hr.mono (by decide)) (passes_call (W := fun cls d _ H => E cls d H) (takes_of rfl rfl rfl rfl) (fun _ _ _ _ h => h)) rfl (.inl rfl) (pv 2))))), ?_⟩
    walk_at "rr"
    refine ⟨_, rfl, whole_len (fun t ht => (nn t ht).1.small) l5, fun l H1 s1 _ hl => ?_⟩
    rw [whole_lines fun t ht => (nn t ht).1] at hl
    walk_at "rr"
    refine ⟨l, us, rfl, hl, ⟨l5, nn, asc⟩, fun ats r H2 e ha s2 h2 => ?_⟩
    have s12 := s1.trans s2
    have bt : ∀ i, Bad ats i ↔ BadT us i := fun i => by
      have ei : us[i]? = ats[i]?.map (·.2) := by rw [← e, List.getElem?_map]
      constructor
      · rintro ⟨x, hx, b⟩
        refine ⟨x.2, by rw [ei, hx]; rfl, b.resolve_right fun m => ?_⟩
        unfold namesOf at m
        obtain ⟨y, hy, ey⟩ := List.mem_map.mp m
        obtain ⟨j, hj⟩ := List.getElem?_of_mem hy
        rw [List.getElem?_take] at hj
        by_cases ji : j < i
        · rw [if_pos ji] at hj
          obtain ⟨l1, e1⟩ := List.getElem?_eq_some_iff.mp hj
          obtain ⟨l2, e2⟩ := List.getElem?_eq_some_iff.mp hx
          have lu : us.length = ats.length := by rw [← e, List.length_map]
          have := List.pairwise_iff_getElem.mp asc j i (by rw [List.length_map, lu]; exact l1) (by rw [List.length_map, lu]; exact l2) ji
          subst e
          rw [List.getElem_map, List.getElem_map, List.getElem_map, List.getElem_map, e1, e2, ey] at this
          exact List.lt_irrefl _ this
        · rw [if_neg ji] at hj
          cases hj
      · rintro ⟨t, ht, b⟩
        rw [ei] at ht
        obtain ⟨x, hx, rfl⟩ := Option.map_eq_some_iff.mp ht
        exact ⟨x, hx, .inl b⟩
    have aa : (namesOf ats).Pairwise sLt := by
      have : namesOf ats = us.map (·.nm) := by
        rw [← e, List.map_map]
        rfl
      rw [this]
      exact asc
    have nm : ∀ x ∈ ats, x.2.Names := fun x hx => (nn x.2 (by rw [← e]; exact List.mem_map.mpr ⟨x, hx, rfl⟩)).1
    walk_at "rr"
    refine k_mkS rfl ?_
    walk_at "rr"
    refine ⟨r, _, rfl, .inr (SqL.of h2), mk_schB (fun x hx => ⟨ha x hx, nm x hx⟩) (by rw [← List.length_map (f := fun x : AT => x.2), e]; exact l5) (fun good p dx d t zs H' pz az hp hd htt s3 => ?_) (fun i b f d H' s3 hd hx => ?_)⟩
    · obtain rfl := perm_asc pz az aa
      refine k1 (fun i b => good i ((bt i).mpr b)) p zs H' e ⟨.refl _, aa, fun x hx => ⟨(ha x hx).same s3, ?_⟩, asc_nodup aa, ?_, dx, d, t, hp, hd, htt⟩ (s12.trans s3)
      · obtain ⟨j, hj⟩ := List.getElem?_of_mem hx
        exact Classical.byContradiction fun n => good j ⟨x, hj, .inl n⟩
      · rw [← List.length_map (f := fun x : AT => x.2), e]
        exact l5
    · exact k2 i ((bt i).mp b) (fun j ji b2 => f j ji ((bt j).mpr b2)) d H' (s12.trans s3) (same_free s12 hd) hx
end
end K03

set_option Elab.async false
set_option maxRecDepth 100000
set_option maxHeartbeats 4000000
set_option linter.unusedVariables false
namespace K03
open PySem PySem.Spec PyProof.Rows L2 Own
-- steps
local macro_rules | `(tactic| walk_at "lk") => `(tactic| first
  | assumption | exact upd_same
  | ((with_reducible refine' lk_new ?e (by assumption)); (case e => walk_at "lk"))
  | ((with_reducible refine' lk_ext (by assumption) ?e); (case e => walk_at "lk"))
  | ((with_reducible refine' lk_same (by assumption) ?e); (case e => walk_at "lk")))
local macro_rules | `(tactic| walk_at "sq") => `(tactic| first | assumption | exact SqL.of (by walk_at "lk") | exact SqT.of (by walk_at "lk"))
local macro_rules | `(tactic| walk_at "r1") => `(tactic| first
  | with_reducible refine k_seq ?_ | with_reducible refine k_asg ?_ | with_reducible refine k_ret ?_ | with_reducible refine k_drop ?_ | with_reducible refine k_next ?_ | with_reducible refine k_ifS ?_
  | ((with_reducible refine' k_var ?e ?_); (case e => exact rfl)) | with_reducible refine k_c ?_ | with_reducible refine k_op ?_ | with_reducible refine k_un ?_ | with_reducible refine k_test ?_ | with_reducible refine k_B ?_
  | with_reducible refine k_and ?_ | with_reducible refine k_or ?_ | with_reducible refine k_not ?_ | with_reducible refine k_andV ?_ | with_reducible refine k_orV ?_ | with_reducible refine k_notV ?_ | with_reducible refine k_if ?_
  | with_reducible refine k_nil ?_ | with_reducible refine k_cons ?_ | with_reducible refine k_tup ?_ | with_reducible refine k_lst ?_ | with_reducible refine k_call ?_ | with_reducible refine k_cb ?_ | with_reducible refine k_ck ?_
  | with_reducible refine k_par ?_ | with_reducible refine k_par1 ?_ | with_reducible refine k_tr ?_ | with_reducible refine k_rI0 ?_ | with_reducible refine k_rU ?_
  | with_reducible refine k_gN ?_ | with_reducible refine k_gS ?_ | with_reducible refine k_gNil ?_ | with_reducible refine k_gCons ?_ | with_reducible refine k_bm0 ?_ | with_reducible refine k_bm ?_
  | with_reducible refine k_for ?_ | with_reducible refine k_iL ?_ | with_reducible refine k_iT ?_ | with_reducible refine k_iR1 ?_ | ((with_reducible refine k_iR1i ?e ?_); (case e => first | decide | exact ⟨by omega, by omega⟩))
  | with_reducible refine k_max ?_ | with_reducible refine k_isB ?_ | with_reducible refine k_sl ?_ | with_reducible refine k_noP ?_ | with_reducible refine k_part ?_ | with_reducible refine k_partI ?_ | with_reducible refine k_revL ?_
  | ((with_reducible refine' k_ixqT ?e ?f ?_); (case e => walk_at "sq"); (case f => first | exact rfl | exact atI_head))
  | ((with_reducible refine' k_ixqL ?e ?f ?_); (case e => walk_at "sq"); (case f => first | exact rfl | exact atI_head))
  | ((with_reducible refine' k_lenL ?e ?_); (case e => walk_at "sq"))
  | ((with_reducible refine' k_lenT ?e ?_); (case e => walk_at "sq"))
  | ((with_reducible refine' k_ixL ?e ?f ?_); (case e => walk_at "sq"); (case f => first | exact rfl | exact atI_head))
  | ((with_reducible refine' k_ixT ?e ?f ?_); (case e => walk_at "sq"); (case f => first | exact rfl | exact atI_head))
  | ((with_reducible refine k_eq ?e ?_); (case e => exact rfl)) | ((with_reducible refine k_ne ?e ?_); (case e => exact rfl))
  | ((with_reducible refine k_rI ?e ?_); (case e => first | assumption | omega | decide | exact ⟨by omega, by omega⟩ | exact .inl ⟨by omega, by omega⟩ | exact .inr ⟨by omega, by omega⟩)))
local macro_rules | `(tactic| walk_at "rd") => `(tactic| repeat walk_at "r1")
local macro_rules | `(tactic| walk_at "r2") => `(tactic| first
  | walk_at "r1"
  | with_reducible refine k_ifTt ?_ | with_reducible refine k_ifFf ?_ | with_reducible refine k_ifNt ?_ | with_reducible refine k_ifNf ?_
  | with_reducible refine k_makeR ?_ | with_reducible refine k_tJ ?_ | with_reducible refine k_tJc ?_ | with_reducible refine k_tJn ?_ | with_reducible refine k_fmt ?_ | with_reducible refine k_lc ?_ | with_reducible refine k_din ?_ | with_reducible refine k_fld ?_ | with_reducible refine k_dget ?_
  | with_reducible refine k_dput ?_
  | with_reducible refine k_isNv ?_
  | with_reducible refine k_notNv ?_
  | with_reducible refine k_str ?_
  | with_reducible refine k_enumT ?_
  | with_reducible refine k_zipA ?_
  | with_reducible refine k_chain ?_
  | ((with_reducible refine' k_dgS ?e dkv_cells ?_); (case e => walk_at "lk"))
  | ((with_reducible refine' k_dgS ?e dkv_mixed ?_); (case e => walk_at "lk"))
  | ((with_reducible refine' k_dgS ?e dkv_turn ?_); (case e => walk_at "lk")))
local macro_rules | `(tactic| walk_at "rr") => `(tactic| repeat walk_at "r2")
-- steps end
theorem PE_imp {X : Cx} {e : Expr} {t t' : TE} (p : PE X e t) (h : ∀ σ H Q, t' σ H Q → t σ H Q) : PE X e t' := ⟨fun pins s σ H Q I q => p.run pins s σ H Q I (h σ H Q q)⟩
theorem PSs_imp {X : Cx} {ss : List Stmt} {t t' : TS} (p : PSs X ss t) (h : ∀ D σ H, t' D σ H → t D σ H) : PSs X ss t' := ⟨fun pins s σ H D I q => p.run pins s σ H D I (h D σ H q)⟩
/-! ### what is read, or which line is wrong -/
theorem nof_part (y : V) : ([(("part" : Str), y)] : List (Str × V)).lookup (Str.ofString "part") = some y := by
  have h2 : ((Str.ofString "part") == Str.ofString "part") = true := by decide +kernel
  simp only [List.lookup, h2]
theorem rawX {P : Program} {w : World} {K : PySem.W.Frag} {mg : Str → Option Value} {g0 : Heap} {Z : CXT} {k : Nat} {f : Addr} {fd : FuncData} {ps : List Str} {sp : Sp} (F : FnOk P w K mg g0 Z k f fd ps sp) (b : L2.Binds K fd ps []) : FnR P w K mg g0 Z k f sp :=
  (F.raw b .nil).imp fun vs H Q E h => by rw [List.append_nil]; exact h
def gK : List Value → List Value → List Value := fun us ws => us ++ ws
def gKV : List V → List V → List V := fun us ws => us ++ ws
structure RefB (P : Program) (w : World) (K : PySem.W.Frag) (mg : Str → Option Value) (g0 : Heap) (C N : Addr) : Prop where
  gC : mg "Schema" = some (.ref C)
  gN : mg "InvalidSchema" = some (.ref N)
  self : PySem.W.exmOne K (.ref N) (.ref N) = some true
  xf : XfC K N
  n1 : PySem.W.findIn K (.ref N) "part" = some none
  tx : Txt K C
  pR : ∃ p g fd, PropOf K C "tables" p g ∧ FnOk P w K mg g0 CX0 1 g fd ["self"] (spTables C) ∧ Binds K fd ["self"] []
  rd : ∃ (mc : Value) (p g : Addr) (fd : FuncData), ClX.CRead K C mc ∧ ClX.CMet K C mc "read" p g ∧ FnOk P w K mg g0 (L2.CX P w) 6 g fd ["cls", "text"] (spRead C N) ∧ Binds K fd ["cls", "text"] [] ∧ KBn K fd ["cls", "text"] 1 ["text"] gK gKV
section
variable {P : Program} {w : World} {K : PySem.W.Frag} {mg : Str → Option Value} {g0 : Heap} {C N : Addr}
abbrev s_heard : Stmt := top 32
theorem sc_heard : FnScope ["_law_whole_here", "_law_found", "e"] ["_law_whole_here"] (defScope s_heard) :=
  ⟨rfl, rfl, rfl, by decide +kernel, rfl, by decide +kernel, by decide +kernel⟩
def tHB (N : Addr) : WX → TS := fun W D σ H => ∃ (us : List T) (o : V), σ = [some (.str (wholeOf us)), some o, none] ∧ Reads us ∧
  ((∀ i, ¬ BadT us i) → ∀ r t (ats : List AT) H', Same H H' → H' r = some (.tup [.str "read", .ref t]) → ats.map (·.2) = us → H' t = some (.tup (refsOf ats)) → (∀ x ∈ ats, TAt H' x.1 x.2) → D.nx [some (.str (wholeOf us)), some (.ref r), none] H') ∧
  (∀ i, BadT us i → (∀ j, j < i → ¬ BadT us j) → ∀ d H', Same H H' → H d = none → H' d = some (.xd [(("part" : Str), V.int i)]) → W (.ref N) (some d) σ H')
def tHS (N : Addr) : Addr → Value → Option Addr → TS := fun a cls d D σ H => ∃ (z : Str) (o : V) (dd : Addr) (i : Nat), σ = [some (.str z), some o, some (.ref a)] ∧ cls = .ref N ∧ d = some dd ∧ H dd = some (.xd [(("part" : Str), V.int i)]) ∧
  ∀ r, H r = none → D.nx [some (.str z), some (.ref r), some (.ref a)] (upd H r (.tup [.str "index", .int i]))
def spHeard : Sp := fun vs H Q _ => ∃ us : List T, vs = [.str (wholeOf us)] ∧ Reads us ∧
  ((∀ i, ¬ BadT us i) → ∀ r t (ats : List AT) H', Same H H' → H' r = some (.tup [.str "read", .ref t]) → ats.map (·.2) = us → H' t = some (.tup (refsOf ats)) → (∀ x ∈ ats, TAt H' x.1 x.2) → Q (.ref r) H') ∧
  (∀ i, BadT us i → (∀ j, j < i → ¬ BadT us j) → ∀ r H', Same H H' → H' r = some (.tup [.str "index", .int i]) → Q (.ref r) H')
theorem ok_heard {f : Addr} {fd : FuncData} (F : Fun K "_law_heard" "_law_heard" s_heard f fd) (B : RefB P w K mg g0 C N) : GOk P w K mg g0 CX0 7 f fd ["_law_whole_here"] spHeard := by
  have nd := sc_heard.nd
  obtain ⟨rp, rg, rf, pR, FR, bR⟩ := B.pR
  obtain ⟨mc, cp, cg, cfd, RD, MT, FC, bC, _⟩ := B.rd
  refine okG F sc_heard (fun vs H Q E h => ?_) (fun cdv A up s H vs Q E qt hr h => ?_)
  · obtain ⟨us, rfl, _⟩ := h
    rfl
  · obtain ⟨us, rfl, rd, k1, k2⟩ := h
    refine ⟨_, pss_cons (ps_set (i := 1) nd rfl (.inl rfl) (pe_tup (pa_cons pe_str pa_nil)))
      (pss_cons (ps_try_as (i := 2) (tb := tHB N) (ts := tHS N) (Wout := fun _ _ _ _ => False) rfl rfl nd rfl rfl ⟨rfl, by decide, Or.inl B.gN⟩ takes0
        (fun W pn xe tk _ => PSs_imp (pss_one (ps_set (i := 1) nd rfl (.inl rfl) (pe_tup (pa_cons pe_str (pa_cons (pe_prop (pe_cmS (E := fun σ => WE W σ) (pe_glob (v := .ref C) rfl B.gC rfl) RD MT (rawX FC bC) (hr.mono (by decide)) (fun σ => passAt tk σ) (pa_cons (pv 0) pa_nil)) B.tx.cl pR FR (hr.mono (by decide)) bR .nil pass0 rfl) pa_nil))))) (fun D σ H h => by
            obtain ⟨us, o, rfl, rd, k1, k2⟩ := h
            walk_at "rr"
            refine k_cms ?_
            walk_at "rr"
            refine ⟨rfl, ?_⟩
            walk_at "rr"
            refine ⟨us, rfl, rd, fun good p ats H' e S s1 => ?_, fun i b f d H' s1 h0 hd => ?_⟩
            · obtain ⟨dx, d, t, h1, h2, h3⟩ := id S.ex
              refine ⟨p, dx, _, rfl, h1, p, ats, ats, rfl, S, fun tt htt => ?_⟩
              walk_at "rr"
              refine ⟨k_sz rfl, fun r hr => ?_⟩
              walk_at "rr"
              exact k1 good r tt ats _ (s1.trans (Same.upd hr)) upd_same e (Same.upd hr _ _ htt) fun x hx => (S.ok x hx).1.same (Same.upd hr)
            · exact k2 i b f d H' s1 h0 hd))
        (fun a oe cls d pn hz hf => PSs_imp (pss_one (ps_set (i := 1) nd rfl (.inl rfl) (pe_tup (pa_cons pe_str (pa_cons (pe_xf B.xf B.n1 hz hf (pv 2)) pa_nil))))) (fun D σ H h => by
            obtain ⟨z, o, dd, i, rfl, rfl, rfl, hd, k⟩ := h
            walk_at "rr"
            refine ⟨_, rfl, rfl, rfl, dd, _, V.int i, rfl, hd, nof_part _, ?_⟩
            walk_at "rr"
            refine ⟨k_sz rfl, fun r hr => ?_⟩
            walk_at "rr"
            exact k r hr)))
      (pss_one (ps_ret (pv 1)))), ?_⟩
    walk_at "rr"
    refine ⟨k_sz rfl, fun o ho => ?_⟩
    walk_at "rr"
    have s0 := Same.upd (o := .tup [V.str "odd"]) ho
    refine ⟨us, _, rfl, rd, fun good r t ats H' s1 hr e ht ha => ?_, fun i b f dd H' s1 h0 hd => ?_⟩
    · walk_at "rr"
      exact k1 good r t ats H' (s0.trans s1) hr e ht ha
    · refine ⟨true, B.self, fun _ a ha => ?_, fun z => by cases z⟩
      refine ⟨_, _, dd, i, rfl, rfl, rfl, hd, fun r hr2 => ?_⟩
      walk_at "rr"
      exact k2 i b f r _ ((s0.trans s1).trans (Same.upd hr2)) upd_same
end
/-! ### sorted tables -/
theorem le_tot : ∀ {β : Type} (k : β → PyData), PySem.W.TotalLe (PySem.W.dataLe false k) := fun k => by
  rw [PySem.W.dataLe_eq]
  refine ⟨fun a b c h1 h2 => ?_, fun a b => ?_⟩
  · have a1 : PySem.W.dataLt (k b) (k a) = false := by simpa using h1
    have a2 : PySem.W.dataLt (k c) (k b) = false := by simpa using h2
    show (!PySem.W.dataLt (k c) (k a)) = true
    cases h : PySem.W.dataLt (k c) (k a) with
    | false => rfl
    | true =>
      rcases lex_negTrans (O := itemOrd) _ (PySem.W.keyToks (k b)) _ h with z | z
      · rw [show PySem.W.dataLt (k c) (k b) = true from z] at a2
        cases a2
      · rw [show PySem.W.dataLt (k b) (k a) = true from z] at a1
        cases a1
  · show (!PySem.W.dataLt (k b) (k a)) = true ∨ (!PySem.W.dataLt (k a) (k b)) = true
    cases h : PySem.W.dataLt (k b) (k a) with
    | false => exact .inl rfl
    | true =>
      refine .inr ?_
      cases h2 : PySem.W.dataLt (k a) (k b) with
      | false => rfl
      | true =>
        have z : PySem.W.dataLt (k a) (k a) = true := lex_trans (O := itemOrd) _ _ _ h2 h
        rw [show PySem.W.dataLt (k a) (k a) = false from lex_irrefl _] at z
        cases z
def zT (x : AT) : V × PyData := (V.ref x.1, x.2.data)
theorem alike_strs : ∀ zs ys : List Str, PySem.W.alikeAll (zs.map .str) (ys.map .str) = true
  | [], ys => by cases ys <;> rfl
  | _ :: _, [] => rfl
  | z :: zs, y :: ys => by
    show (true && PySem.W.alikeAll (zs.map .str) (ys.map .str)) = true
    rw [alike_strs zs ys]
    rfl
theorem alike_T (a b : T) : PySem.W.alike a.data b.data = true := by
  unfold T.data strsD
  simp only [PySem.W.alike, PySem.W.alikeAll, alike_strs, Bool.and_self]
theorem lt_T {a b : T} (h : a.nm ≠ b.nm) : PySem.W.dataLt a.data b.data = decide (sLt a.nm b.nm) := by
  unfold T.data
  rw [PySem.W.dataLt_tuple, PySem.W.dataLt_all_no rfl (by simpa [PyData.eqv] using h), PySem.W.dataLt_str]
theorem slt_total {a b : Str} (h : a ≠ b) (h2 : ¬ sLt a b) : sLt b a := by
  rcases Decidable.em (sLt b a) with q | q
  · exact q
  · have e := List.le_antisymm (List.not_lt.mp q) (List.not_lt.mp h2)
    refine absurd ?_ h
    obtain ⟨a⟩ := a
    obtain ⟨b⟩ := b
    exact congrArg Str.mk (Array.toList_inj.mp e)
theorem sort_tabs {ts : List AT} (nd : (namesOf ts).Nodup) : ∃ zs : List AT, zs.Perm ts ∧ (namesOf zs).Pairwise sLt ∧ ((ts.map zT).mergeSort (PySem.W.dataLe false fun b : V × PyData => b.2)).map (·.1) = refsOf zs := by
  have e : (ts.map zT).mergeSort (PySem.W.dataLe false fun b : V × PyData => b.2) = (ts.mergeSort (PySem.W.dataLe false fun x : AT => x.2.data)).map zT :=
    (List.map_mergeSort (f := zT) (r := PySem.W.dataLe false fun x : AT => x.2.data) (s := PySem.W.dataLe false fun b : V × PyData => b.2) fun _ _ _ _ => rfl).symm
  have pm := List.mergeSort_perm ts (PySem.W.dataLe false fun x : AT => x.2.data)
  have pw := PySem.W.sort_pairwise (le_tot fun x : AT => x.2.data) ts
  rw [e]
  generalize ts.mergeSort (PySem.W.dataLe false fun x : AT => x.2.data) = zs at pm pw
  have nd2 : (namesOf zs).Nodup := (pm.map fun x : AT => x.2.nm).nodup_iff.mpr nd
  refine ⟨zs, pm, ?_, by rw [List.map_map]; rfl⟩
  unfold namesOf at nd2 ⊢
  rw [List.pairwise_map]
  refine (pw.and (List.pairwise_map.mp nd2)).imp fun {a b} h => ?_
  obtain ⟨h1, h2⟩ := h
  rcases Decidable.em (sLt a.2.nm b.2.nm) with q | q
  · exact q
  · have := slt_total h2 q
    have z : PySem.W.dataLt b.2.data a.2.data = false := by simpa [PySem.W.dataLe_eq] using h1
    rw [lt_T (fun z => h2 z.symm), decide_eq_true this] at z
    cases z
section
variable {K : PySem.W.Frag}
theorem sorted_of {ts : List AT} {H : Hp} {Q : VK} {l : Addr} (hl : H l = some (.lst (refsOf ts))) (ht : ∀ x ∈ ts, TAt H x.1 x.2) (nd : (namesOf ts).Nodup) (lt : ts.length ≤ 1000)
    (k : ∀ (zs : List AT) p, H p = none → zs.Perm ts → (namesOf zs).Pairwise sLt → Q (.ref p) (upd H p (.lst (refsOf zs)))) : rSortedA K [.ref l] H Q := by
  obtain ⟨zs, pm, az, e⟩ := sort_tabs nd
  refine ⟨l, ts.map zT, rfl, .inl (SqL.of (by rw [hl, List.map_map]; rfl)), fun b hb => ?_, ?_, .inl fun d hd => ?_, by rw [List.length_map]; exact lt, fun p hp => ?_⟩
  · obtain ⟨x, hx, rfl⟩ := List.mem_map.mp hb
    exact ⟨(ht x hx).dp, Nat.le_trans (dep_T x.2) (by decide)⟩
  · intro d hd d' hd'
    rw [List.map_map] at hd hd'
    obtain ⟨x, _, rfl⟩ := List.mem_map.mp hd
    obtain ⟨y, _, rfl⟩ := List.mem_map.mp hd'
    exact alike_T x.2 y.2
  · rw [List.map_map] at hd
    obtain ⟨x, _, rfl⟩ := List.mem_map.mp hd
    exact ⟨_, _, rfl⟩
  · rw [e]
    exact k zs p hp pm az
/-- sorted names -/
def zS (z : Str) : V × PyData := (V.str z, .str z)
theorem sortedS_of {zs : List Str} {H : Hp} {Q : VK} {a : Addr} (hl : SqL K H a (zs.map V.str) ∨ SqT K H a (zs.map V.str)) (lt : zs.length ≤ 1000)
    (k : ∀ (ys : List Str) p, H p = none → ys.Perm zs → Q (.ref p) (upd H p (.lst (ys.map V.str)))) : rSortedA K [.ref a] H Q := by
  have e : (zs.map zS).mergeSort (PySem.W.dataLe false fun b : V × PyData => b.2) = (zs.mergeSort (PySem.W.dataLe false fun x : Str => .str x)).map zS :=
    (List.map_mergeSort (f := zS) (r := PySem.W.dataLe false fun x : Str => .str x) (s := PySem.W.dataLe false fun b : V × PyData => b.2) fun _ _ _ _ => rfl).symm
  have pm := List.mergeSort_perm zs (PySem.W.dataLe false fun x : Str => .str x)
  have em : ∀ ws : List Str, (ws.map zS).map (·.1) = ws.map V.str := fun ws => by rw [List.map_map]; rfl
  refine ⟨a, zs.map zS, rfl, by rw [em]; exact hl, fun b hb => ?_, ?_, .inr fun d hd => ?_, by rw [List.length_map]; exact lt, fun p hp => ?_⟩
  · obtain ⟨x, _, rfl⟩ := List.mem_map.mp hb
    exact ⟨.str x, by show 0 ≤ 50; decide⟩
  · intro d hd d' hd'
    rw [List.map_map] at hd hd'
    obtain ⟨x, _, rfl⟩ := List.mem_map.mp hd
    obtain ⟨y, _, rfl⟩ := List.mem_map.mp hd'
    rfl
  · rw [List.map_map] at hd
    obtain ⟨x, _, rfl⟩ := List.mem_map.mp hd
    exact ⟨(fun z => by cases z), (fun xs z => by cases z)⟩
  · rw [e, em]
    exact k _ p hp pm
end
end K03

set_option Elab.async false
set_option maxRecDepth 100000
set_option maxHeartbeats 4000000
set_option linter.unusedVariables false
namespace K03
open PySem PySem.Spec PyProof.Rows L2 Own
-- steps
local macro_rules | `(tactic| walk_at "lk") => `(tactic| first
  | assumption | exact upd_same
  | ((with_reducible refine' lk_new ?e (by assumption)); (case e => walk_at "lk"))
  | ((with_reducible refine' lk_ext (by assumption) ?e); (case e => walk_at "lk"))
  | ((with_reducible refine' lk_same (by assumption) ?e); (case e => walk_at "lk")))
local macro_rules | `(tactic| walk_at "sq") => `(tactic| first | assumption | exact SqL.of (by walk_at "lk") | exact SqT.of (by walk_at "lk"))
local macro_rules | `(tactic| walk_at "r1") => `(tactic| first
  | with_reducible refine k_seq ?_ | with_reducible refine k_asg ?_ | with_reducible refine k_ret ?_ | with_reducible refine k_drop ?_ | with_reducible refine k_next ?_ | with_reducible refine k_ifS ?_
  | ((with_reducible refine' k_var ?e ?_); (case e => exact rfl)) | with_reducible refine k_c ?_ | with_reducible refine k_op ?_ | with_reducible refine k_un ?_ | with_reducible refine k_test ?_ | with_reducible refine k_B ?_
  | with_reducible refine k_and ?_ | with_reducible refine k_or ?_ | with_reducible refine k_not ?_ | with_reducible refine k_andV ?_ | with_reducible refine k_orV ?_ | with_reducible refine k_notV ?_ | with_reducible refine k_if ?_
  | with_reducible refine k_nil ?_ | with_reducible refine k_cons ?_ | with_reducible refine k_tup ?_ | with_reducible refine k_lst ?_ | with_reducible refine k_call ?_ | with_reducible refine k_cb ?_ | with_reducible refine k_ck ?_
  | with_reducible refine k_par ?_ | with_reducible refine k_par1 ?_ | with_reducible refine k_tr ?_ | with_reducible refine k_rI0 ?_ | with_reducible refine k_rU ?_
  | with_reducible refine k_gN ?_ | with_reducible refine k_gS ?_ | with_reducible refine k_gNil ?_ | with_reducible refine k_gCons ?_ | with_reducible refine k_bm0 ?_ | with_reducible refine k_bm ?_
  | with_reducible refine k_for ?_ | with_reducible refine k_iL ?_ | with_reducible refine k_iT ?_ | with_reducible refine k_iR1 ?_ | ((with_reducible refine k_iR1i ?e ?_); (case e => first | decide | exact ⟨by omega, by omega⟩))
  | with_reducible refine k_max ?_ | with_reducible refine k_isB ?_ | with_reducible refine k_sl ?_ | with_reducible refine k_noP ?_ | with_reducible refine k_part ?_ | with_reducible refine k_partI ?_ | with_reducible refine k_revL ?_
  | ((with_reducible refine' k_ixqT ?e ?f ?_); (case e => walk_at "sq"); (case f => first | exact rfl | exact atI_head))
  | ((with_reducible refine' k_ixqL ?e ?f ?_); (case e => walk_at "sq"); (case f => first | exact rfl | exact atI_head))
  | ((with_reducible refine' k_lenL ?e ?_); (case e => walk_at "sq"))
  | ((with_reducible refine' k_lenT ?e ?_); (case e => walk_at "sq"))
  | ((with_reducible refine' k_ixL ?e ?f ?_); (case e => walk_at "sq"); (case f => first | exact rfl | exact atI_head))
  | ((with_reducible refine' k_ixT ?e ?f ?_); (case e => walk_at "sq"); (case f => first | exact rfl | exact atI_head))
  | ((with_reducible refine k_eq ?e ?_); (case e => exact rfl)) | ((with_reducible refine k_ne ?e ?_); (case e => exact rfl))
  | ((with_reducible refine k_rI ?e ?_); (case e => first | assumption | omega | decide | exact ⟨by omega, by omega⟩ | exact .inl ⟨by omega, by omega⟩ | exact .inr ⟨by omega, by omega⟩)))
local macro_rules | `(tactic| walk_at "rd") => `(tactic| repeat walk_at "r1")
local macro_rules | `(tactic| walk_at "r2") => `(tactic| first
  | walk_at "r1"
  | with_reducible refine k_ifTt ?_ | with_reducible refine k_ifFf ?_ | with_reducible refine k_ifNt ?_ | with_reducible refine k_ifNf ?_
  | with_reducible refine k_makeR ?_ | with_reducible refine k_tJ ?_ | with_reducible refine k_tJc ?_ | with_reducible refine k_tJn ?_ | with_reducible refine k_fmt ?_ | with_reducible refine k_lc ?_ | with_reducible refine k_din ?_ | with_reducible refine k_fld ?_ | with_reducible refine k_dget ?_
  | with_reducible refine k_dput ?_
  | with_reducible refine k_isNv ?_
  | with_reducible refine k_notNv ?_
  | with_reducible refine k_str ?_
  | with_reducible refine k_enumT ?_
  | with_reducible refine k_zipA ?_
  | with_reducible refine k_chain ?_
  | ((with_reducible refine' k_dgS ?e dkv_cells ?_); (case e => walk_at "lk"))
  | ((with_reducible refine' k_dgS ?e dkv_mixed ?_); (case e => walk_at "lk"))
  | ((with_reducible refine' k_dgS ?e dkv_turn ?_); (case e => walk_at "lk")))
local macro_rules | `(tactic| walk_at "rr") => `(tactic| repeat walk_at "r2")
-- steps end
/-! ### tables that are none -/
structure Wrong (t t' : T) : Prop where
  n : t'.Names
  c : 1 ≤ t'.cs.length
  nm : t'.nm = t.nm
  bad : ¬ t'.Ok
def abcd : List Str := ["a", "b", "c", "d"]
def freeOf (cs : List Str) : List Str := abcd.filter fun z => !decide (z ∈ cs)
theorem abcd_name : ∀ z ∈ abcd, isNameB z = true := by decide +kernel
theorem free_pos {cs : List Str} (h : cs.length ≤ 3) : 4 ≤ cs.length + (freeOf cs).length := by
  have nd : abcd.Nodup := by decide +kernel
  have e : abcd.length = (freeOf cs).length + (abcd.filter fun z => decide (z ∈ cs)).length := by
    unfold freeOf
    generalize abcd = l
    induction l with
    | nil => rfl
    | cons z l ih =>
      by_cases m : z ∈ cs
      · simp only [List.filter_cons, m, decide_true, Bool.not_true, if_true, List.length_cons]
        simp
        omega
      · simp only [List.filter_cons, m, decide_false, Bool.not_false, if_true, List.length_cons]
        simp
        omega
  have l4 : abcd.length = 4 := rfl
  have := nodup_len (zs := abcd.filter fun z => decide (z ∈ cs)) (cs := cs) (nd.filter _) fun z hz => by simpa using (List.mem_filter.mp hz).2
  omega
theorem slt_irr (a : Str) : ¬ sLt a a := List.lt_irrefl _
section
variable {t : T}
theorem wr1 (ok : t.Ok) {c : Str} (hc : c ∈ t.cs) : Wrong t ⟨t.nm, t.cs ++ [c], [], []⟩ := by
  have l3 := ok.c3
  refine ⟨⟨ok.nm, ⟨by simp; omega, fun z hz => ?_⟩, ⟨by simp, fun z hz => by cases hz⟩, ⟨by simp, fun z hz => by cases hz⟩⟩, by simp, rfl, fun o => ?_⟩
  · rcases List.mem_append.mp hz with hz | hz
    · exact ok.cn z hz
    · rw [List.mem_singleton.mp hz]
      exact ok.cn c hc
  · exact (List.nodup_append.mp o.cd).2.2 c hc c (List.mem_singleton.mpr rfl) rfl
theorem wr2 (ok : t.Ok) : Wrong t ⟨t.nm, (t.cs ++ freeOf t.cs).take 4, t.is, t.ks⟩ := by
  have sm := ok.small
  have l3 := ok.c3
  have fp := free_pos l3
  have le : ((t.cs ++ freeOf t.cs).take 4).length = 4 := by
    rw [List.length_take, List.length_append]
    omega
  refine ⟨⟨ok.nm, ⟨by show ((t.cs ++ freeOf t.cs).take 4).length ≤ 8; omega, fun z hz => ?_⟩, ⟨sm.i.1, fun z hz => ok.cn z (ok.ii z hz)⟩, ⟨sm.k.1, fun z hz => ok.cn z (ok.ki z hz)⟩⟩, by show 1 ≤ ((t.cs ++ freeOf t.cs).take 4).length; omega, rfl, fun o => ?_⟩
  · rcases List.mem_append.mp (List.mem_of_mem_take hz) with hz | hz
    · exact ok.cn z hz
    · exact abcd_name z (List.mem_filter.mp hz).1
  · have : ((t.cs ++ freeOf t.cs).take 4).length ≤ 3 := o.c3
    omega
theorem wr3 (ok : t.Ok) {c : Str} (hc : c ∈ t.cs) : Wrong t ⟨t.nm, t.cs, [c, c], t.ks⟩ := by
  have sm := ok.small
  refine ⟨⟨ok.nm, ⟨sm.c.1, ok.cn⟩, ⟨by simp, fun z hz => ?_⟩, ⟨sm.k.1, fun z hz => ok.cn z (ok.ki z hz)⟩⟩, ok.c1, rfl, fun o => ?_⟩
  · have : z = c := by simpa using hz
    rw [this]
    exact ok.cn c hc
  · have := (List.pairwise_cons.mp o.ia).1 c (by simp)
    exact slt_irr c this
theorem wr4 (ok : t.Ok) {c : Str} (hc : c ∈ t.cs) : Wrong t ⟨t.nm, t.cs, t.is, [c, c]⟩ := by
  have sm := ok.small
  refine ⟨⟨ok.nm, ⟨sm.c.1, ok.cn⟩, ⟨sm.i.1, fun z hz => ok.cn z (ok.ii z hz)⟩, ⟨by simp, fun z hz => ?_⟩⟩, ok.c1, rfl, fun o => ?_⟩
  · have : z = c := by simpa using hz
    rw [this]
    exact ok.cn c hc
  · have := (List.pairwise_cons.mp o.ka).1 c (by simp)
    exact slt_irr c this
theorem wr5 (ok : t.Ok) {f : Str} (hf : f ∈ freeOf t.cs) : Wrong t ⟨t.nm, t.cs, [f], t.ks⟩ := by
  have sm := ok.small
  have h := List.mem_filter.mp hf
  refine ⟨⟨ok.nm, ⟨sm.c.1, ok.cn⟩, ⟨by simp, fun z hz => ?_⟩, ⟨sm.k.1, fun z hz => ok.cn z (ok.ki z hz)⟩⟩, ok.c1, rfl, fun o => ?_⟩
  · rw [List.mem_singleton.mp hz]
    exact abcd_name f h.1
  · have h2 := h.2
    have := o.ii f (by simp)
    simp [this] at h2
theorem wr6 (ok : t.Ok) {f : Str} (hf : f ∈ freeOf t.cs) : Wrong t ⟨t.nm, t.cs, t.is, [f]⟩ := by
  have sm := ok.small
  have h := List.mem_filter.mp hf
  refine ⟨⟨ok.nm, ⟨sm.c.1, ok.cn⟩, ⟨sm.i.1, fun z hz => ok.cn z (ok.ii z hz)⟩, ⟨by simp, fun z hz => ?_⟩⟩, ok.c1, rfl, fun o => ?_⟩
  · rw [List.mem_singleton.mp hz]
    exact abcd_name f h.1
  · have h2 := h.2
    have := o.ki f (by simp)
    simp [this] at h2
theorem wr7 (ok : t.Ok) {c : Str} (hc : c ∈ t.cs) {ys : List Str} (p : ys.Perm (t.cs ++ [c])) : Wrong t ⟨t.nm, t.cs, ys, []⟩ := by
  have sm := ok.small
  have l3 := ok.c3
  have lp := p.length_eq
  rw [List.length_append, List.length_singleton] at lp
  refine ⟨⟨ok.nm, ⟨sm.c.1, ok.cn⟩, ⟨by show ys.length ≤ 8; omega, fun z hz => ?_⟩, ⟨by simp, fun z hz => by cases hz⟩⟩, ok.c1, rfl, fun o => ?_⟩
  · rcases List.mem_append.mp (p.mem_iff.mp hz) with hz | hz
    · exact ok.cn z hz
    · rw [List.mem_singleton.mp hz]
      exact ok.cn c hc
  · have nd : (t.cs ++ [c]).Nodup := p.nodup_iff.mp (asc_nodup o.ia)
    exact (List.nodup_append.mp nd).2.2 c hc c (List.mem_singleton.mpr rfl) rfl
theorem wr8 (ok : t.Ok) : Wrong t ⟨t.nm, ["b", "a"], ["b", "a"], []⟩ := by
  have ab : ∀ z ∈ (["b", "a"] : List Str), isNameB z = true := by decide +kernel
  refine ⟨⟨ok.nm, ⟨k_ble rfl, ab⟩, ⟨k_ble rfl, ab⟩, ⟨by simp, fun z hz => by cases hz⟩⟩, k_ble rfl, rfl, fun o => ?_⟩
  have := (List.pairwise_cons.mp o.ia).1 "a" (by simp)
  exact absurd this (by decide +kernel)
theorem wr9 (ok : t.Ok) : Wrong t ⟨t.nm, ["c", "b", "a"], [], ["a", "c", "b"]⟩ := by
  have ab : ∀ z ∈ (["c", "b", "a"] : List Str), isNameB z = true := by decide +kernel
  have ac : ∀ z ∈ (["a", "c", "b"] : List Str), isNameB z = true := by decide +kernel
  refine ⟨⟨ok.nm, ⟨k_ble rfl, ab⟩, ⟨by simp, fun z hz => by cases hz⟩, ⟨k_ble rfl, ac⟩⟩, k_ble rfl, rfl, fun o => ?_⟩
  have := (List.pairwise_cons.mp (List.pairwise_cons.mp o.ka).2).1 "b" (by simp)
  exact absurd this (by decide +kernel)
end
theorem tab_at {H : Hp} {p c i k : Addr} {nm : Str} {cs is ks : List Str} (h : H p = some (.tup [.str nm, .ref c, .ref i, .ref k])) (h1 : H c = some (.tup (cs.map V.str))) (h2 : H i = some (.tup (is.map V.str))) (h3 : H k = some (.tup (ks.map V.str))) : TAt H p ⟨nm, cs, is, ks⟩ := ⟨c, i, k, h, h1, h2, h3⟩
section
variable {P : Program} {w : World} {K : PySem.W.Frag} {mg : Str → Option Value} {g0 : Heap}
abbrev s_wrong : Stmt := top 33
theorem sc_wrong : FnScope ["_law_deck_here", "_law_one", "_law_some", "_law_name", "_law_columns", "_law_indexes", "_law_unique", "_law_column", "_law_free", "_law_sign"] ["_law_deck_here", "_law_one"] (defScope s_wrong) :=
  ⟨rfl, rfl, rfl, by decide +kernel, rfl, by decide +kernel, by decide +kernel⟩
def spWrong : Sp := fun vs H Q _ => ∃ (d c a : Addr) (b : Int) (t : T), vs = [.ref d, .ref a] ∧ Deck d c b H ∧ b ≤ 900000 ∧ TAt H a t ∧ t.Ok ∧
  ∀ t' r H', Wrong t t' → TAt H' r t' → Deck d c (b + 2) H' → Ext (Dk d c) H H' → Q (.ref r) H'
theorem ok_wrong {f : Addr} {fd : FuncData} (F : Fun K "_law_wrong" "_law_wrong" s_wrong f fd) (z_list : mg "list" = none) (z_tuple : mg "tuple" = none) (z_sorted : mg "sorted" = none)
    (C_pick : Cal P w K mg g0 "_law_pick" 2 ["_law_deck_here", "_law_some"] spPick) : GOk P w K mg g0 CX0 3 f fd ["_law_deck_here", "_law_one"] spWrong := by
  have nd := sc_wrong.nd
  refine okG F sc_wrong (fun vs H Q E h => ?_) (fun cdv A up s H vs Q E qt hr h => ?_)
  · obtain ⟨d, c, a, b, t, rfl, _⟩ := h
    rfl
  · obtain ⟨d, c, a, b, t, rfl, D, hb, ht, ok, k⟩ := h
    obtain ⟨tc, ti, tk, g1, g2, g3, g4⟩ := ht
    refine ⟨_, (pss_cons (ps_asg (pv 1) (pg_tup rfl (pgs_cons (pg_name (i := 3) nd rfl (Or.inl rfl)) (pgs_cons (pg_name (i := 4) nd rfl (Or.inr rfl)) (pgs_cons (pg_name (i := 5) nd rfl (Or.inl rfl)) (pgs_cons (pg_name (i := 6) nd rfl (Or.inl rfl)) pgs_nil))))))
        (pss_cons (ps_par (i := 7) (j := 8) (by rfl) nd rfl rfl (by decide) rfl rfl (pa_cons (pe_c C_pick qt (hr.mono (by decide)) (pa_cons (pv 0) (pa_cons (pe_callTy c_list (by rfl) z_list (by decide +kernel) (pa_cons (pv 4) pa_nil)) pa_nil))) (pa_cons (pe_lc (own := [("_law_sign", 9)]) (g := (gName 9)) (tt := (tTest (tOp _ (tVar 9) (tVar 4)))) (te := (tVar 9)) (by rfl) nd (pi_str pe_str) (blkOk_by (own := [("_law_sign", 9)]) (N := ["_law_deck_here", "_law_one", "_law_some", "_law_name", "_law_columns", "_law_indexes", "_law_unique", "_law_column", "_law_free", "_law_sign"]) (sc := defScope s_wrong) (by decide +kernel)) (fun _ _ _ _ _ => by exact (pg_name (i := 9) nd rfl (Or.inl rfl))) (fun _ _ _ _ _ => by exact (pts_one (pt_cmpR (op_notInK (K := K) rfl) (pv 9) (pv 4) (by rfl)))) (fun _ _ _ _ _ => by exact (pv 9))) pa_nil)) (by rfl))
        (pss_cons (ps_set (i := 2) nd rfl (Or.inl rfl) (pe_lst (pa_cons (pe_tup (pa_cons (pv 3) (pa_cons (pe_op op_catT (pv 4) (pe_tup (pa_cons (pv 7) pa_nil))) (pa_cons (pe_tup pa_nil) (pa_cons (pe_tup pa_nil) pa_nil))))) (pa_cons (pe_tup (pa_cons (pv 3) (pa_cons (pe_slice sl_tupA (pe_op op_catT (pv 4) (pe_callTy call_tuple_of (by rfl) z_tuple (by decide +kernel) (pa_cons (pv 8) pa_nil))) po_none (po_some pe_int)) (pa_cons (pv 5) (pa_cons (pv 6) pa_nil))))) pa_nil))))
        (pss_cons (ps_set (i := 2) nd rfl (Or.inl rfl) (pe_op op_cat (pv 2) (pe_lst (pa_cons (pe_tup (pa_cons (pv 3) (pa_cons (pv 4) (pa_cons (pe_tup (pa_cons (pv 7) (pa_cons (pv 7) pa_nil))) (pa_cons (pv 6) pa_nil))))) (pa_cons (pe_tup (pa_cons (pv 3) (pa_cons (pv 4) (pa_cons (pv 5) (pa_cons (pe_tup (pa_cons (pv 7) (pa_cons (pv 7) pa_nil))) pa_nil))))) pa_nil)))))
        (pss_cons (ps_set (i := 2) nd rfl (Or.inl rfl) (pe_op op_cat (pv 2) (pe_lst (pa_cons (pe_tup (pa_cons (pv 3) (pa_cons (pv 4) (pa_cons (pe_tup (pa_cons (pe_ix ix_seq (pv 8) pe_int (fun _ _ => rfl)) pa_nil)) (pa_cons (pv 6) pa_nil))))) (pa_cons (pe_tup (pa_cons (pv 3) (pa_cons (pv 4) (pa_cons (pv 5) (pa_cons (pe_tup (pa_cons (pe_ix ix_seq (pv 8) (pe_un un_neg pe_int) (fun _ _ => rfl)) pa_nil)) pa_nil))))) pa_nil)))))
        (pss_cons (ps_set (i := 2) nd rfl (Or.inl rfl) (pe_op op_cat (pv 2) (pe_lst (pa_cons (pe_tup (pa_cons (pv 3) (pa_cons (pv 4) (pa_cons (pe_callTy call_tuple_of (by rfl) z_tuple (by decide +kernel) (pa_cons (pe_callB (call_sortedA hr.units) (by rfl) z_sorted (by decide +kernel) (pa_cons (pe_op op_catT (pv 4) (pe_tup (pa_cons (pv 7) pa_nil))) pa_nil)) pa_nil)) (pa_cons (pe_tup pa_nil) pa_nil))))) (pa_cons (pe_tup (pa_cons (pv 3) (pa_cons (pe_tup (pa_cons pe_str (pa_cons pe_str pa_nil))) (pa_cons (pe_tup (pa_cons pe_str (pa_cons pe_str pa_nil))) (pa_cons (pe_tup pa_nil) pa_nil))))) pa_nil)))))
        (pss_one (ps_ret (pe_c C_pick qt (hr.mono (by decide)) (pa_cons (pv 0) (pa_cons (pe_op op_cat (pv 2) (pe_lst (pa_cons (pe_tup (pa_cons (pv 3) (pa_cons (pe_tup (pa_cons pe_str (pa_cons pe_str (pa_cons pe_str pa_nil)))) (pa_cons (pe_tup pa_nil) (pa_cons (pe_tup (pa_cons pe_str (pa_cons pe_str (pa_cons pe_str pa_nil)))) pa_nil))))) pa_nil))) pa_nil))))))))))), ?_⟩
    walk_at "rr"
    refine k_gTup (SqT.of g1) rfl ?_
    walk_at "rr"
    refine k_listT (SqT.of g2) fun l hl => ?_
    have ol := D.off hl
    generalize eq : upd H l _ = H1
    obtain ⟨s1, hl1⟩ := upd_tells eq hl
    clear eq
    walk_at "rr"
    have l3 := ok.c3
    have l1 := ok.c1
    refine ⟨d, c, l, b, t.cs.map V.str, rfl, D.same s1, by omega, ol, hl1, by rw [List.length_map]; omega, by rw [List.length_map]; omega, fun x H2 hx D2 x2 => ?_⟩
    obtain ⟨col, hc, rfl⟩ := List.mem_map.mp hx
    have g2 := x2.1 _ _ (s1 _ _ g2)
    have g3 := x2.1 _ _ (s1 _ _ g3)
    have g4 := x2.1 _ _ (s1 _ _ g4)
    have x02 : Ext (Dk d c) H H2 := (Same.ext s1).trans x2
    clear hl1 ol hl
    walk_at "rr"
    refine ⟨_, rfl, fun L0 hL0 => ?_⟩
    refine lc_same walk_str (fun i => match abcd[i]? with | some z => .str z | none => .non) (fun i => match abcd[i]? with | some z => !decide (z ∈ t.cs) | none => true) (by show 4 < 100000; decide) hL0 (fun _ _ => trivial) (fun i x H5 H6 hi s5 yy Q1 R1 q1 r1 => ?_) fun H3 s3 hF => ?_
    · obtain ⟨rfl, ch, hch, rfl⟩ := yy
      have all : ∀ i < 4, abcd[i]? = (Str.ofString "abcd").cps[i]?.map fun c => (⟨#[c]⟩ : Str) := by decide +kernel
      have ei : abcd[i]? = some ⟨#[ch]⟩ := by rw [all i hi, hch]; rfl
      rw [ei] at q1 r1
      have g2 := s5 _ _ g2
      walk_at "rr"
      refine ⟨rfl, ?_⟩
      walk_at "rr"
      refine ⟨tc, _, rfl, .inr (SqT.of g2), rfl, L2.flat_strs _, ?_⟩
      rw [if_pos rfl, inV_strs]
      by_cases hm : (⟨#[ch]⟩ : Str) ∈ t.cs
      · rw [decide_eq_true hm]
        walk_at "rr"
        exact r1 (by show (!decide _) = false; rw [decide_eq_true hm]; rfl) _ (Same.refl _)
      · rw [decide_eq_false hm]
        walk_at "rr"
        exact q1 (by show (!decide _) = true; rw [decide_eq_false hm]; rfl) _ (Same.refl _)
    have hF : H3 L0 = some (.lst ((freeOf t.cs).map V.str)) := by
      rw [hF]
      have := range_filter abcd (fun i => match abcd[i]? with | some z => !decide (z ∈ t.cs) | none => true) (fun i => match abcd[i]? with | some z => V.str z | none => .non) (fun z => !decide (z ∈ t.cs)) V.str (fun k z e => ⟨by simp only [e], by simp only [e]⟩)
      exact congrArg (fun l => some (HO.lst l)) this
    have g2 := s3 _ _ g2
    have g3 := s3 _ _ g3
    have g4 := s3 _ _ g4
    have D3 := D2.same s3
    have x03 : Ext (Dk d c) H H3 := x02.trans (Same.ext s3)
    clear s3 s1 x2 x02
    walk_at "rr"
    have fp := free_pos l3
    have fl : (freeOf t.cs).length ≤ 4 := List.length_filter_le _ _
    have cn : t.cs.map V.str ≠ [] := fun z => by have := congrArg List.length z; rw [List.length_map] at this; simp at this; rw [this] at l1; exact absurd l1 (by decide)
    have fn : (freeOf t.cs).map V.str ≠ [] := fun z => by have := congrArg List.length z; rw [List.length_map] at this; simp at this; rw [this] at fp; simp at fp; omega
    refine ⟨k_sz rfl, fun p1 hp => ?_⟩
    generalize eq : upd H3 p1 _ = H4
    obtain ⟨s4, hp1⟩ := upd_tells eq hp
    clear eq hp
    walk_at "rr"
    refine catT_of (by walk_at "lk") hp1 cn (by simp) (by rw [List.length_map]; show t.cs.length + 1 ≤ 100000; omega) fun p2 H5 s5 hp2 hp => ?_
    clear hp
    walk_at "rr"
    refine ⟨k_sz rfl, fun p3 hp => ?_⟩
    generalize eq : upd H5 p3 _ = H6
    obtain ⟨s6, hp3⟩ := upd_tells eq hp
    clear eq hp
    walk_at "rr"
    refine ⟨k_sz rfl, fun p4 hp => ?_⟩
    generalize eq : upd H6 p4 _ = H7
    obtain ⟨s7, hp4⟩ := upd_tells eq hp
    clear eq hp
    walk_at "rr"
    refine ⟨k_sz rfl, fun p5 hp => ?_⟩
    generalize eq : upd H7 p5 _ = H8
    obtain ⟨s8, hp5⟩ := upd_tells eq hp
    clear eq hp
    walk_at "rr"
    refine ⟨L0, _, rfl, .inl ⟨SqL.of (by walk_at "lk"), fun p6 hp => ?_⟩⟩
    generalize eq : upd H8 p6 _ = H9
    obtain ⟨s9, hp6⟩ := upd_tells eq hp
    clear eq hp
    walk_at "rr"
    refine catT_of (by walk_at "lk") hp6 cn fn (by rw [List.length_map, List.length_map]; omega) fun p7 H10 s10 hp7 hp => ?_
    clear hp
    walk_at "rr"
    refine sla_of hp7 cut_to fun p8 H11 s11 hp8 => ?_
    rw [← List.map_append, ← List.map_take] at hp8
    walk_at "rr"
    refine ⟨k_sz rfl, fun p9 hp => ?_⟩
    generalize eq : upd H11 p9 _ = H12
    obtain ⟨s12, hp9⟩ := upd_tells eq hp
    clear eq hp
    walk_at "rr"
    refine ⟨k_sz rfl, fun q1 hp => ?_⟩
    generalize eq : upd H12 q1 _ = H13
    obtain ⟨s13, hq1⟩ := upd_tells eq hp
    clear eq hp
    walk_at "rr"
    have t1 : TAt H13 p5 _ := tab_at (nm := t.nm) (cs := t.cs ++ [col]) (is := []) (ks := []) (by walk_at "lk") (by rw [List.map_append]; walk_at "lk") (by walk_at "lk") (by walk_at "lk")
    have t2 : TAt H13 p9 _ := tab_at (nm := t.nm) (cs := (t.cs ++ freeOf t.cs).take 4) (is := t.is) (ks := t.ks) (by walk_at "lk") (by walk_at "lk") (by walk_at "lk") (by walk_at "lk")
    have s0 : Same H3 H13 := (((((((((s4.trans s5).trans s6).trans s7).trans s8).trans s9).trans s10).trans s11).trans s12).trans s13)
    have g2 := s0 _ _ g2
    have g3 := s0 _ _ g3
    have g4 := s0 _ _ g4
    have hF := s0 _ _ hF
    clear s4 s5 s6 s7 s8 s9 s10 s11 s12 s13 hp1 hp2 hp3 hp4 hp5 hp6 hp7 hp8 hp9
    refine ⟨k_sz rfl, fun p1 hp => ?_⟩
    generalize eq : upd H13 p1 _ = H14
    obtain ⟨s14, hp1⟩ := upd_tells eq hp
    clear eq hp
    walk_at "rr"
    refine ⟨k_sz rfl, fun p3 hp => ?_⟩
    generalize eq : upd H14 p3 _ = H15
    obtain ⟨s15, hp3⟩ := upd_tells eq hp
    clear eq hp
    walk_at "rr"
    refine ⟨k_sz rfl, fun p2 hp => ?_⟩
    generalize eq : upd H15 p2 _ = H16
    obtain ⟨s16, hp2⟩ := upd_tells eq hp
    clear eq hp
    walk_at "rr"
    refine ⟨k_sz rfl, fun p4 hp => ?_⟩
    generalize eq : upd H16 p4 _ = H17
    obtain ⟨s17, hp4⟩ := upd_tells eq hp
    clear eq hp
    walk_at "rr"
    refine ⟨k_sz rfl, fun q2 hp => ?_⟩
    generalize eq : upd H17 q2 _ = H18
    obtain ⟨s18, hq2⟩ := upd_tells eq hp
    clear eq hp
    walk_at "rr"
    refine catL_of (by walk_at "lk") hq2 (k_ble rfl) fun q3 H19 s19 hq3 hp => ?_
    clear hp
    walk_at "rr"
    have t3 : TAt H19 p3 _ := tab_at (nm := t.nm) (cs := t.cs) (is := [col, col]) (ks := t.ks) (by walk_at "lk") (by walk_at "lk") (by walk_at "lk") (by walk_at "lk")
    have t4 : TAt H19 p4 _ := tab_at (nm := t.nm) (cs := t.cs) (is := t.is) (ks := [col, col]) (by walk_at "lk") (by walk_at "lk") (by walk_at "lk") (by walk_at "lk")
    have sn : Same H13 H19 := (((((s14.trans s15).trans s16).trans s17).trans s18).trans s19)
    have s0 := s0.trans sn
    have g2 := sn _ _ g2
    have g3 := sn _ _ g3
    have g4 := sn _ _ g4
    have hF := sn _ _ hF
    have t1 := t1.same sn
    have t2 := t2.same sn
    clear sn s14 s15 s16 s17 s18 s19 hp1 hp2 hp3 hp4 hq1 hq2
    obtain ⟨f0, hf0, ef0⟩ : ∃ f0, f0 ∈ freeOf t.cs ∧ atI ((freeOf t.cs).map V.str) 0 = some (V.str f0) := by
      match freeOf t.cs, fn with
      | [], fn => exact absurd rfl fn
      | f0 :: r, _ => exact ⟨f0, List.mem_cons_self, atI_head⟩
    obtain ⟨f1, hf1, ef1⟩ : ∃ f1, f1 ∈ freeOf t.cs ∧ atI ((freeOf t.cs).map V.str) (-1) = some (V.str f1) := by
      rcases List.eq_nil_or_concat (freeOf t.cs) with z | ⟨zs, y, ez⟩
      · exact absurd (by rw [z]; rfl) fn
      · refine ⟨y, by rw [ez]; simp, ?_⟩
        rw [ez, List.concat_eq_append, List.map_append]
        exact atI_last _ _
    refine k_ixqL (SqL.of (by walk_at "lk")) ef0 ?_
    walk_at "rr"
    refine ⟨k_sz rfl, fun p1 hp => ?_⟩
    generalize eq : upd H19 p1 _ = H20
    obtain ⟨s20, hp1⟩ := upd_tells eq hp
    clear eq hp
    walk_at "rr"
    refine ⟨k_sz rfl, fun p3 hp => ?_⟩
    generalize eq : upd H20 p3 _ = H21
    obtain ⟨s21, hp3⟩ := upd_tells eq hp
    clear eq hp
    walk_at "rr"
    refine k_ixqL (SqL.of (by walk_at "lk")) ef1 ?_
    walk_at "rr"
    refine ⟨k_sz rfl, fun p2 hp => ?_⟩
    generalize eq : upd H21 p2 _ = H22
    obtain ⟨s22, hp2⟩ := upd_tells eq hp
    clear eq hp
    walk_at "rr"
    refine ⟨k_sz rfl, fun p4 hp => ?_⟩
    generalize eq : upd H22 p4 _ = H23
    obtain ⟨s23, hp4⟩ := upd_tells eq hp
    clear eq hp
    walk_at "rr"
    refine ⟨k_sz rfl, fun q2 hp => ?_⟩
    generalize eq : upd H23 q2 _ = H24
    obtain ⟨s24, hq2⟩ := upd_tells eq hp
    clear eq hp
    walk_at "rr"
    refine catL_of (by walk_at "lk") hq2 (k_ble rfl) fun q4 H25 s25 hq4 hp => ?_
    clear hp
    walk_at "rr"
    have t5 : TAt H25 p3 _ := tab_at (nm := t.nm) (cs := t.cs) (is := [f0]) (ks := t.ks) (by walk_at "lk") (by walk_at "lk") (by walk_at "lk") (by walk_at "lk")
    have t6 : TAt H25 p4 _ := tab_at (nm := t.nm) (cs := t.cs) (is := t.is) (ks := [f1]) (by walk_at "lk") (by walk_at "lk") (by walk_at "lk") (by walk_at "lk")
    have sn : Same H19 H25 := (((((s20.trans s21).trans s22).trans s23).trans s24).trans s25)
    have s0 := s0.trans sn
    have g2 := sn _ _ g2
    have g3 := sn _ _ g3
    have g4 := sn _ _ g4
    have hF := sn _ _ hF
    have t1 := t1.same sn
    have t2 := t2.same sn
    have t3 := t3.same sn
    have t4 := t4.same sn
    clear sn s20 s21 s22 s23 s24 s25 hp1 hp2 hp3 hp4 hq3 hq2
    refine ⟨k_sz rfl, fun p1 hp => ?_⟩
    generalize eq : upd H25 p1 _ = H26
    obtain ⟨s26, hp1⟩ := upd_tells eq hp
    clear eq hp
    walk_at "rr"
    refine catT_of (by walk_at "lk") hp1 cn (by simp) (by rw [List.length_map]; show t.cs.length + 1 ≤ 100000; omega) fun p2 H27 s27 hp2 hp => ?_
    clear hp
    walk_at "rr"
    refine sortedS_of (zs := t.cs ++ [col]) (.inr (SqT.of (by rw [List.map_append]; walk_at "lk"))) (by rw [List.length_append]; show t.cs.length + 1 ≤ 1000; omega) fun ys p3 hp py => ?_
    generalize eq : upd H27 p3 _ = H28
    obtain ⟨s28, hp3⟩ := upd_tells eq hp
    clear eq hp
    walk_at "rr"
    refine ⟨p3, _, rfl, .inl ⟨SqL.of (by walk_at "lk"), fun p4 hp => ?_⟩⟩
    generalize eq : upd H28 p4 _ = H29
    obtain ⟨s29, hp4⟩ := upd_tells eq hp
    clear eq hp
    walk_at "rr"
    refine ⟨k_sz rfl, fun p5 hp => ?_⟩
    generalize eq : upd H29 p5 _ = H30
    obtain ⟨s30, hp5⟩ := upd_tells eq hp
    clear eq hp
    walk_at "rr"
    refine ⟨k_sz rfl, fun p6 hp => ?_⟩
    generalize eq : upd H30 p6 _ = H31
    obtain ⟨s31, hp6⟩ := upd_tells eq hp
    clear eq hp
    walk_at "rr"
    refine ⟨k_sz rfl, fun p7 hp => ?_⟩
    generalize eq : upd H31 p7 _ = H32
    obtain ⟨s32, hp7⟩ := upd_tells eq hp
    clear eq hp
    walk_at "rr"
    refine ⟨k_sz rfl, fun p8 hp => ?_⟩
    generalize eq : upd H32 p8 _ = H33
    obtain ⟨s33, hp8⟩ := upd_tells eq hp
    clear eq hp
    walk_at "rr"
    refine ⟨k_sz rfl, fun p9 hp => ?_⟩
    generalize eq : upd H33 p9 _ = H34
    obtain ⟨s34, hp9⟩ := upd_tells eq hp
    clear eq hp
    walk_at "rr"
    refine ⟨k_sz rfl, fun p10 hp => ?_⟩
    generalize eq : upd H34 p10 _ = H35
    obtain ⟨s35, hp10⟩ := upd_tells eq hp
    clear eq hp
    walk_at "rr"
    refine ⟨k_sz rfl, fun q2 hp => ?_⟩
    generalize eq : upd H35 q2 _ = H36
    obtain ⟨s36, hq2⟩ := upd_tells eq hp
    clear eq hp
    walk_at "rr"
    refine catL_of (by walk_at "lk") hq2 (k_ble rfl) fun q5 H37 s37 hq5 hp => ?_
    clear hp
    walk_at "rr"
    have t7 : TAt H37 p6 _ := tab_at (nm := t.nm) (cs := t.cs) (is := ys) (ks := []) (by walk_at "lk") (by walk_at "lk") (by walk_at "lk") (by walk_at "lk")
    have t8 : TAt H37 p10 _ := tab_at (nm := t.nm) (cs := ["b", "a"]) (is := ["b", "a"]) (ks := []) (by walk_at "lk") (by walk_at "lk") (by walk_at "lk") (by walk_at "lk")
    have sn : Same H25 H37 := (((((((((((s26.trans s27).trans s28).trans s29).trans s30).trans s31).trans s32).trans s33).trans s34).trans s35).trans s36).trans s37)
    have s0 := s0.trans sn
    have g2 := sn _ _ g2
    have g3 := sn _ _ g3
    have g4 := sn _ _ g4
    have hF := sn _ _ hF
    have t1 := t1.same sn
    have t2 := t2.same sn
    have t3 := t3.same sn
    have t4 := t4.same sn
    have t5 := t5.same sn
    have t6 := t6.same sn
    clear sn s26 s27 s28 s29 s30 s31 s32 s33 s34 s35 s36 s37 hp1 hp2 hp3 hp4 hp5 hp6 hp7 hp8 hp9 hp10 hq4 hq2
    refine ⟨k_sz rfl, fun p1 hp => ?_⟩
    generalize eq : upd H37 p1 _ = H38
    obtain ⟨s38, hp1⟩ := upd_tells eq hp
    clear eq hp
    walk_at "rr"
    refine ⟨k_sz rfl, fun p2 hp => ?_⟩
    generalize eq : upd H38 p2 _ = H39
    obtain ⟨s39, hp2⟩ := upd_tells eq hp
    clear eq hp
    walk_at "rr"
    refine ⟨k_sz rfl, fun p3 hp => ?_⟩
    generalize eq : upd H39 p3 _ = H40
    obtain ⟨s40, hp3⟩ := upd_tells eq hp
    clear eq hp
    walk_at "rr"
    refine ⟨k_sz rfl, fun p4 hp => ?_⟩
    generalize eq : upd H40 p4 _ = H41
    obtain ⟨s41, hp4⟩ := upd_tells eq hp
    clear eq hp
    walk_at "rr"
    refine ⟨k_sz rfl, fun q2 hp => ?_⟩
    generalize eq : upd H41 q2 _ = H42
    obtain ⟨s42, hq2⟩ := upd_tells eq hp
    clear eq hp
    walk_at "rr"
    refine catL_of (by walk_at "lk") hq2 (k_ble rfl) fun q6 H43 s43 hq6 hp => ?_
    have ol6 := (D3.same (s0.trans ((((s38.trans s39).trans s40).trans s41).trans s42))).off hp
    clear hp
    walk_at "rr"
    have t9 : TAt H43 p4 _ := tab_at (nm := t.nm) (cs := ["c", "b", "a"]) (is := []) (ks := ["a", "c", "b"]) (by walk_at "lk") (by walk_at "lk") (by walk_at "lk") (by walk_at "lk")
    have sn : Same H37 H43 := (((((s38.trans s39).trans s40).trans s41).trans s42).trans s43)
    have s0 := s0.trans sn
    have g2 := sn _ _ g2
    have g3 := sn _ _ g3
    have g4 := sn _ _ g4
    have hF := sn _ _ hF
    have t1 := t1.same sn
    have t2 := t2.same sn
    have t3 := t3.same sn
    have t4 := t4.same sn
    have t5 := t5.same sn
    have t6 := t6.same sn
    have t7 := t7.same sn
    have t8 := t8.same sn
    clear sn s38 s39 s40 s41 s42 s43 hp1 hp2 hp3 hp4 hq5 hq2
    have D9 := D3.same s0
    have x9 := x03.trans (Same.ext s0)
    clear s0 x03 D3 D2 g1 g2 g3 g4 hF
    refine ⟨d, c, q6, b + 1, _, rfl, D9, by omega, ol6, hq6, k_ble rfl, k_ble rfl, fun x H' hx D' x' => ?_⟩
    have D8 : Deck d c (b + 2) H' := D'.mono (by omega)
    have xx := x9.trans x'
    simp only [List.mem_append, List.mem_cons, List.not_mem_nil, or_false] at hx
    rcases hx with ((((hx | hx) | hx | hx) | hx | hx) | hx | hx) | hx
    · subst hx
      exact k _ _ _ (wr1 ok hc) (t1.ext x') D8 xx
    · subst hx
      exact k _ _ _ (wr2 ok) (t2.ext x') D8 xx
    · subst hx
      exact k _ _ _ (wr3 ok hc) (t3.ext x') D8 xx
    · subst hx
      exact k _ _ _ (wr4 ok hc) (t4.ext x') D8 xx
    · subst hx
      exact k _ _ _ (wr5 ok hf0) (t5.ext x') D8 xx
    · subst hx
      exact k _ _ _ (wr6 ok hf1) (t6.ext x') D8 xx
    · subst hx
      exact k _ _ _ (wr7 ok hc py) (t7.ext x') D8 xx
    · subst hx
      exact k _ _ _ (wr8 ok) (t8.ext x') D8 xx
    · subst hx
      exact k _ _ _ (wr9 ok) (t9.ext x') D8 xx
end
end K03

set_option Elab.async false
set_option maxRecDepth 100000
set_option linter.unusedVariables false
/-! what repr tells: how large -/
namespace Own
open PySem PySem.Spec PyProof.Rows L2
theorem ix_tupK {X : Cx} {K : PySem.W.Frag} (h : X.K = K) : IxR X (rIxT K) := by
  subst h
  exact ix_tup
structure Fit (W D : Nat) (d : PyData) : Prop where
  sh : d.showable = true
  la : d.canLay0 = true
  is : d.intsShort 13 = true
  de : d.depth ≤ D
  we : d.weight ≤ W
structure FitA (W D : Nat) (ds : List PyData) : Prop where
  sh : PyData.showableAll ds = true
  la : PyData.canLayAll0 ds = true
  is : PyData.intsShortAll 13 ds = true
  de : PyData.depthAll ds ≤ D
  we : PyData.weightAll ds ≤ W
theorem fit_nil {D : Nat} : FitA 0 D [] := ⟨rfl, rfl, rfl, Nat.zero_le _, Nat.le_refl _⟩
theorem fit_cons {W W' D : Nat} {d : PyData} {ds : List PyData} (a : Fit W D d) (b : FitA W' D ds) : FitA (W + 1 + W') D (d :: ds) := by
  refine ⟨?_, ?_, ?_, ?_, ?_⟩
  · show (_ && _) = true
    rw [a.sh, b.sh]
    rfl
  · show (_ && _) = true
    rw [a.la, b.la]
    rfl
  · show (_ && _) = true
    rw [a.is, b.is]
    rfl
  · show max _ _ ≤ D
    exact Nat.max_le.mpr ⟨a.de, b.de⟩
  · show _ + 1 + _ ≤ _
    have := a.we
    have := b.we
    omega
theorem fit_tup {W D : Nat} {ds : List PyData} (a : FitA W D ds) : Fit W (D + 1) (.tuple ds) := ⟨a.sh, a.la, a.is, Nat.succ_le_succ a.de, a.we⟩
theorem fit_lst {W D : Nat} {ds : List PyData} (a : FitA W D ds) : Fit W (D + 1) (.list ds) := ⟨a.sh, a.la, a.is, Nat.succ_le_succ a.de, a.we⟩
theorem Fit.mono {W W' D D' : Nat} {d : PyData} (a : Fit W D d) (h : W ≤ W') (h2 : D ≤ D') : Fit W' D' d := ⟨a.sh, a.la, a.is, Nat.le_trans a.de h2, Nat.le_trans a.we h⟩
theorem FitA.mono {W W' D D' : Nat} {d : List PyData} (a : FitA W D d) (h : W ≤ W') (h2 : D ≤ D') : FitA W' D' d := ⟨a.sh, a.la, a.is, Nat.le_trans a.de h2, Nat.le_trans a.we h⟩
def RepD (d : PyData) : Prop := d.showable = true ∧ d.depth ≤ 60 ∧ d.shown.length ≤ sizeLine
theorem Fit.repr {W D : Nat} {d : PyData} (f : Fit W D d) (h : W ≤ 1000000) (h2 : D ≤ 60) : RepD d := by
  refine ⟨f.sh, Nat.le_trans f.de h2, ?_⟩
  have hl : d.layable0 = true := by
    show (_ && decide _ && decide _) = true
    have e : (2 : Nat) ^ 20 = 1048576 := by decide
    have := f.de
    have := f.we
    rw [f.la, decide_eq_true (show d.depth ≤ 64 by omega), decide_eq_true (show d.weight ≤ 2 ^ 20 by rw [e]; omega)]
    rfl
  have := PyProof.Rows.shown_le13 hl f.is
  rw [sizeLine_eq]
  omega
theorem fit_str {z : Str} (h : PyData.strOk z = true) (l : z.length ≤ 100) : Fit 1000 0 (.str z) := by
  refine ⟨rfl, h, rfl, Nat.le_refl _, ?_⟩
  show z.cps.size ≤ 1000
  have : z.cps.size = z.length := rfl
  omega
theorem fit_strs : ∀ {zs : List Str}, (∀ z ∈ zs, PyData.strOk z = true ∧ z.length ≤ 100) → FitA (1001 * zs.length) 0 (zs.map .str)
  | [], _ => fit_nil
  | z :: zs, h => (fit_cons (fit_str (h z List.mem_cons_self).1 (h z List.mem_cons_self).2) (fit_strs fun y k => h y (List.mem_cons_of_mem _ k))).mono (by simp only [List.length_cons]; omega) (Nat.le_refl _)
end Own

set_option Elab.async false
set_option maxRecDepth 100000
set_option maxHeartbeats 4000000
set_option linter.unusedVariables false
namespace K03
open PySem PySem.Spec PyProof.Rows L2 Own StX
-- steps
local macro_rules | `(tactic| walk_at "lk") => `(tactic| first
  | assumption | exact upd_same
  | ((with_reducible refine' lk_new ?e (by assumption)); (case e => walk_at "lk"))
  | ((with_reducible refine' lk_ext (by assumption) ?e); (case e => walk_at "lk"))
  | ((with_reducible refine' lk_same (by assumption) ?e); (case e => walk_at "lk")))
local macro_rules | `(tactic| walk_at "sq") => `(tactic| first | assumption | exact SqL.of (by walk_at "lk") | exact SqT.of (by walk_at "lk"))
local macro_rules | `(tactic| walk_at "r1") => `(tactic| first
  | with_reducible refine k_seq ?_ | with_reducible refine k_asg ?_ | with_reducible refine k_ret ?_ | with_reducible refine k_drop ?_ | with_reducible refine k_next ?_ | with_reducible refine k_ifS ?_
  | ((with_reducible refine' k_var ?e ?_); (case e => exact rfl)) | with_reducible refine k_c ?_ | with_reducible refine k_op ?_ | with_reducible refine k_un ?_ | with_reducible refine k_test ?_ | with_reducible refine k_B ?_
  | with_reducible refine k_and ?_ | with_reducible refine k_or ?_ | with_reducible refine k_not ?_ | with_reducible refine k_andV ?_ | with_reducible refine k_orV ?_ | with_reducible refine k_notV ?_ | with_reducible refine k_if ?_
  | with_reducible refine k_nil ?_ | with_reducible refine k_cons ?_ | with_reducible refine k_tup ?_ | with_reducible refine k_lst ?_ | with_reducible refine k_call ?_ | with_reducible refine k_cb ?_ | with_reducible refine k_ck ?_
  | with_reducible refine k_par ?_ | with_reducible refine k_par1 ?_ | with_reducible refine k_tr ?_ | with_reducible refine k_rI0 ?_ | with_reducible refine k_rU ?_
  | with_reducible refine k_gN ?_ | with_reducible refine k_gS ?_ | with_reducible refine k_gNil ?_ | with_reducible refine k_gCons ?_ | with_reducible refine k_bm0 ?_ | with_reducible refine k_bm ?_
  | with_reducible refine k_for ?_ | with_reducible refine k_iL ?_ | with_reducible refine k_iT ?_ | with_reducible refine k_iR1 ?_ | ((with_reducible refine k_iR1i ?e ?_); (case e => first | decide | exact ⟨by omega, by omega⟩))
  | with_reducible refine k_max ?_ | with_reducible refine k_isB ?_ | with_reducible refine k_sl ?_ | with_reducible refine k_noP ?_ | with_reducible refine k_part ?_ | with_reducible refine k_partI ?_ | with_reducible refine k_revL ?_
  | ((with_reducible refine' k_ixqT ?e ?f ?_); (case e => walk_at "sq"); (case f => first | exact rfl | exact atI_head))
  | ((with_reducible refine' k_ixqL ?e ?f ?_); (case e => walk_at "sq"); (case f => first | exact rfl | exact atI_head))
  | ((with_reducible refine' k_lenL ?e ?_); (case e => walk_at "sq"))
  | ((with_reducible refine' k_lenT ?e ?_); (case e => walk_at "sq"))
  | ((with_reducible refine' k_ixL ?e ?f ?_); (case e => walk_at "sq"); (case f => first | exact rfl | exact atI_head))
  | ((with_reducible refine' k_ixT ?e ?f ?_); (case e => walk_at "sq"); (case f => first | exact rfl | exact atI_head))
  | ((with_reducible refine k_eq ?e ?_); (case e => exact rfl)) | ((with_reducible refine k_ne ?e ?_); (case e => exact rfl))
  | ((with_reducible refine k_rI ?e ?_); (case e => first | assumption | omega | decide | exact ⟨by omega, by omega⟩ | exact .inl ⟨by omega, by omega⟩ | exact .inr ⟨by omega, by omega⟩)))
local macro_rules | `(tactic| walk_at "rd") => `(tactic| repeat walk_at "r1")
local macro_rules | `(tactic| walk_at "r2") => `(tactic| first
  | walk_at "r1"
  | with_reducible refine k_ifTt ?_ | with_reducible refine k_ifFf ?_ | with_reducible refine k_ifNt ?_ | with_reducible refine k_ifNf ?_
  | with_reducible refine k_makeR ?_ | with_reducible refine k_tJ ?_ | with_reducible refine k_tJc ?_ | with_reducible refine k_tJn ?_ | with_reducible refine k_fmt ?_ | with_reducible refine k_lc ?_ | with_reducible refine k_din ?_ | with_reducible refine k_fld ?_ | with_reducible refine k_dget ?_
  | with_reducible refine k_dput ?_
  | with_reducible refine k_isNv ?_
  | with_reducible refine k_notNv ?_
  | with_reducible refine k_str ?_
  | with_reducible refine k_enumT ?_
  | with_reducible refine k_zipA ?_
  | with_reducible refine k_chain ?_
  | ((with_reducible refine' k_dgS ?e dkv_cells ?_); (case e => walk_at "lk"))
  | ((with_reducible refine' k_dgS ?e dkv_mixed ?_); (case e => walk_at "lk"))
  | ((with_reducible refine' k_dgS ?e dkv_turn ?_); (case e => walk_at "lk")))
local macro_rules | `(tactic| walk_at "rr") => `(tactic| repeat walk_at "r2")
-- steps end
theorem fit_strsD {zs : List Str} (h : ∀ z ∈ zs, isNameB z = true) (l : zs.length ≤ 3) : Fit 4000 1 (strsD zs) :=
  (fit_tup (fit_strs fun z hz => ⟨name_ok (h z hz), Nat.le_trans (name_len (h z hz)) (by decide)⟩)).mono (by omega) (Nat.le_refl _)
theorem fit_T {t : T} (ok : t.Ok) : Fit 20000 2 t.data := by
  have l1 := some_len ok.ia ok.ii
  have l2 := some_len ok.ka ok.ki
  have l3 := ok.c3
  exact (fit_tup (fit_cons ((fit_str (name_ok ok.nm) (Nat.le_trans (name_len ok.nm) (by decide))).mono (Nat.le_refl _) (Nat.zero_le 1)) (fit_cons (fit_strsD ok.cn l3)
    (fit_cons (fit_strsD (fun z hz => ok.cn z (ok.ii z hz)) (by omega)) (fit_cons (fit_strsD (fun z hz => ok.cn z (ok.ki z hz)) (by omega)) fit_nil))))).mono (by omega) (Nat.le_refl _)
theorem fit_Ts : ∀ {us : List T}, (∀ t ∈ us, t.Ok) → FitA (20001 * us.length) 2 (us.map T.data)
  | [], _ => fit_nil
  | t :: us, h => (fit_cons (fit_T (h t List.mem_cons_self)) (fit_Ts fun y k => h y (List.mem_cons_of_mem _ k))).mono (by simp only [List.length_cons]; omega) (Nat.le_refl _)
theorem rep_tabs {us : List T} (h : ∀ t ∈ us, t.Ok) (l : us.length ≤ 5) : RepD (tabsD us) := Fit.repr (fit_tup (fit_Ts h)) (by omega) (by decide)
theorem rep_read {us : List T} (h : ∀ t ∈ us, t.Ok) (l : us.length ≤ 5) : RepD (.tuple [.str "read", tabsD us]) :=
  Fit.repr (fit_tup (fit_cons ((fit_str (z := "read") (by decide +kernel) (by decide)).mono (Nat.le_refl _) (Nat.zero_le 3)) (fit_cons (fit_tup (fit_Ts h)) fit_nil))) (by omega) (by decide)
theorem rep_index : ∀ i < 6, (PyData.tuple [.str "index", .int ((i : Nat) : Int)]).showable = true ∧ (PyData.tuple [.str "index", .int ((i : Nat) : Int)]).depth ≤ 60 ∧ (PyData.tuple [.str "index", .int ((i : Nat) : Int)]).shown.length ≤ sizeLine := by decide +kernel
theorem SchAt.same {C : Addr} {H H' : Hp} {p : Addr} {ts zs : List AT} (S : SchAt C H p ts zs) (s : Same H H') : SchAt C H' p ts zs := by
  obtain ⟨dx, d, t, h1, h2, h3⟩ := S.ex
  exact ⟨S.perm, S.asc, fun x hx => ⟨(S.ok x hx).1.same s, (S.ok x hx).2⟩, S.nd, S.len, dx, d, t, s _ _ h1, s _ _ h2, s _ _ h3⟩
theorem text_whole (zs : List AT) : Txt.join (Str.ofString "\n") (zs.map fun x => ttOf x.2) = wholeOf (zs.map (·.2)) := by
  unfold wholeOf
  rw [List.map_map]
  congr 2
  funext x
  exact (line_tt x.2).symm
theorem whole_line (zs : List AT) : Txt.join (Str.ofString "\n") (zs.map fun x => lineOf x.2) = wholeOf (zs.map (·.2)) := by
  unfold wholeOf
  rw [List.map_map]
  rfl
def Good (us : List T) : Prop := Reads us ∧ ∀ t ∈ us, t.Ok
theorem Good.no {us : List T} (g : Good us) (i : Nat) : ¬ BadT us i := fun ⟨t, ht, b⟩ => b (g.2 t (List.mem_of_getElem? ht))
theorem good_nil : Good [] := ⟨⟨by decide, (fun t h => by cases h), List.Pairwise.nil⟩, fun t h => by cases h⟩
theorem good_of {zs : List AT} (ok : ∀ x ∈ zs, x.2.Ok) (l : zs.length ≤ 5) (a : (namesOf zs).Pairwise sLt) : Good (zs.map (·.2)) := by
  refine ⟨⟨by rw [List.length_map]; exact l, fun t ht => ?_, ?_⟩, fun t ht => ?_⟩
  · obtain ⟨x, hx, rfl⟩ := List.mem_map.mp ht
    have o := ok x hx
    have sm := o.small
    exact ⟨⟨o.nm, ⟨sm.c.1, o.cn⟩, ⟨sm.i.1, fun z hz => o.cn z (o.ii z hz)⟩, ⟨sm.k.1, fun z hz => o.cn z (o.ki z hz)⟩⟩, o.c1⟩
  · rw [List.map_map]
    exact a
  · obtain ⟨x, hx, rfl⟩ := List.mem_map.mp ht
    exact ok x hx
theorem k_mulE {Q : VK} {H : Hp} {i j k : Int} (c : CMul i j) (e : i * j = k) (h : Q (.int k) H) : rI CMul (fun i j => V.int (i * j)) (.int i) (.int j) H Q := ⟨i, j, rfl, rfl, c, by subst e; exact h⟩
theorem k_par3 {i j l : Nat} {tl : TA} {D : Ends} {σ : L2.St} {H : Hp} (h : tl σ H fun vs H1 => ∃ a b c, vs = [a, b, c] ∧ D.nx (((σ.set i (some a)).set j (some b)).set l (some c)) H1) : tPar3 i j l tl D σ H := h
theorem whole_nil : wholeOf [] = Str.ofString "" := by decide +kernel
theorem TAt.tups {H H' : Hp} {a : Addr} {t : T} (h : TAt H a t) (s : Tups H H') : TAt H' a t := by
  obtain ⟨c, i, k, h1, h2, h3, h4⟩ := h
  exact ⟨c, i, k, s _ _ h1, s _ _ h2, s _ _ h3, s _ _ h4⟩
/-- rows, some of them wrong -/
structure Rw (zs ws : List AT) (S : Nat → Prop) : Prop where
  nm : namesOf ws = namesOf zs
  wf : ∀ x ∈ ws, x.2.Names ∧ 1 ≤ x.2.cs.length
  bad : ∀ k x, ws[k]? = some x → S k → ¬ x.2.Ok
  good : ∀ k x, ws[k]? = some x → ¬ S k → x.2.Ok
theorem Rw.start {zs : List AT} (h : ∀ x ∈ zs, x.2.Ok) : Rw zs zs fun _ => False := by
  refine ⟨rfl, fun x hx => ?_, fun _ _ _ z => z.elim, fun k x hx _ => h x (List.mem_of_getElem? hx)⟩
  have o := h x hx
  have sm := o.small
  exact ⟨⟨o.nm, ⟨sm.c.1, o.cn⟩, ⟨sm.i.1, fun z hz => o.cn z (o.ii z hz)⟩, ⟨sm.k.1, fun z hz => o.cn z (o.ki z hz)⟩⟩, o.c1⟩
theorem Rw.set {zs ws : List AT} {S : Nat → Prop} (w : Rw zs ws S) {k : Nat} {x : AT} (hx : ws[k]? = some x) {r : Addr} {t : T} (h : Wrong x.2 t) : Rw zs (ws.set k (r, t)) fun j => S j ∨ j = k := by
  have hk := (List.getElem?_eq_some_iff.mp hx).1
  have at_ : ∀ j y, (ws.set k (r, t))[j]? = some y → (j = k ∧ y = (r, t)) ∨ (j ≠ k ∧ ws[j]? = some y) := fun j y hy => by
    by_cases e : j = k
    · subst e
      rw [List.getElem?_set_self hk] at hy
      exact .inl ⟨rfl, (Option.some.inj hy).symm⟩
    · rw [List.getElem?_set_ne (fun z => e z.symm)] at hy
      exact .inr ⟨e, hy⟩
  refine ⟨?_, fun y hy => ?_, fun j y hy s => ?_, fun j y hy s => ?_⟩
  · rw [← w.nm]
    refine List.ext_getElem? fun j => ?_
    unfold namesOf
    rw [List.getElem?_map, List.getElem?_map]
    by_cases e : j = k
    · subst e
      rw [List.getElem?_set_self hk, hx]
      exact congrArg some h.nm
    · rw [List.getElem?_set_ne (fun z => e z.symm)]
  · obtain ⟨j, hj⟩ := List.getElem?_of_mem hy
    rcases at_ j y hj with ⟨_, rfl⟩ | ⟨_, hj⟩
    · exact ⟨h.n, h.c⟩
    · exact w.wf y (List.mem_of_getElem? hj)
  · rcases at_ j y hy with ⟨_, rfl⟩ | ⟨n, hj⟩
    · exact h.bad
    · exact w.bad j y hj (s.resolve_right n)
  · rcases at_ j y hy with ⟨e, rfl⟩ | ⟨n, hj⟩
    · exact absurd (.inr e) s
    · exact w.good j y hj fun z => s (.inl z)
theorem refs_set (ws : List AT) (k : Nat) (x : AT) : (refsOf ws).set k (V.ref x.1) = refsOf (ws.set k x) := by
  unfold refsOf
  rw [List.map_set]
def fives : List Str := ["a", "b", "c", "d", "e"]
def fiveT : List T := fives.map fun z => ⟨z, ["a"], [], []⟩
theorem good_five : Good fiveT := by
  have n1 : ∀ z ∈ fives, isNameB z = true := by decide +kernel
  have n2 : isNameB "a" = true := by decide +kernel
  have ok : ∀ t ∈ fiveT, t.Ok := fun t ht => by
    obtain ⟨z, hz, rfl⟩ := List.mem_map.mp ht
    exact ⟨n1 z hz, Nat.le_refl 1, k_ble (n := 1) (m := 3) rfl, (fun y hy => by rw [List.mem_singleton.mp hy]; exact n2), List.nodup_cons.mpr ⟨by simp, List.nodup_nil⟩, (fun y hy => by cases hy), List.Pairwise.nil, (fun y hy => by cases hy), List.Pairwise.nil⟩
  refine ⟨⟨k_ble rfl, fun t ht => ?_, ?_⟩, ok⟩
  · have o := ok t ht
    have sm := o.small
    exact ⟨⟨o.nm, ⟨sm.c.1, o.cn⟩, ⟨sm.i.1, fun z hz => o.cn z (o.ii z hz)⟩, ⟨sm.k.1, fun z hz => o.cn z (o.ki z hz)⟩⟩, o.c1⟩
  · have : fiveT.map (·.nm) = fives := by decide +kernel
    rw [this]
    have z : ∀ i < 5, ∀ j < 5, i < j → ∀ a b, fives[i]? = some a → fives[j]? = some b → sLt a b := by
      intro i hi j hj hij a b ha hb
      have all : ∀ i < 5, ∀ j < 5, i < j → (fives.getD i "").cps.toList < (fives.getD j "").cps.toList := by decide +kernel
      have := all i hi j hj hij
      rw [List.getD_eq_getElem?_getD, List.getD_eq_getElem?_getD, ha, hb] at this
      exact this
    exact List.pairwise_iff_getElem.mpr fun i j hi hj hij => z i hi j hj hij _ _ (List.getElem?_eq_getElem hi) (List.getElem?_eq_getElem hj)
theorem five_lines : fives.map (fun z => Str.ofString "table " ++ z ++ Str.ofString " (a)") = fiveT.map lineOf := by decide +kernel
section
variable {P : Program} {w : World} {K : PySem.W.Frag} {mg : Str → Option Value} {g0 : Heap} {C N : Addr}
abbrev s_law : Stmt := top 34
theorem sc_law : FnScope ["_law_script", "_law_turn", "_law_five", "_law_deck_here", "_law_behind", "_law_some", "_law_again", "_law_k", "_law_schema_here", "_law_whole_here", "_law_rows", "_law_at", "_law_other", "_law_name"] ["_law_script"] (defScope s_law) :=
  ⟨rfl, rfl, rfl, by decide +kernel, rfl, by decide +kernel, by decide +kernel⟩
structure Law (P : Program) (w : World) (K : PySem.W.Frag) (mg : Str → Option Value) (g0 : Heap) (C N : Addr) : Prop where
  ref : RefB P w K mg g0 C N
  eq : ∃ f, PySem.W.findIn K (.ref C) "__eq__" = some (some (.ref f)) ∧ PySem.W.isFn K (.ref f) = true ∧ NotAhead K C ∧ FnR P w K mg g0 CX0 1 f (spEq C)
  pT : ∃ p g fd, PropOf K C "text" p g ∧ FnOk P w K mg g0 CX0 2 g fd ["self"] (spText C) ∧ Binds K fd ["self"] []
  ln : ∃ f, PySem.W.findIn K (.ref C) "__len__" = some (some (.ref f)) ∧ PySem.W.typeIn K (.ref f) = some (.type "function") ∧ FnR P w K mg g0 CX0 1 f (spLen C)
def spLaw (K : PySem.W.Frag) : Sp := fun vs H Q _ => ∃ (a : Addr) (xs : List Int), vs = [.ref a] ∧ SqL K H a (xs.map V.int) ∧ xs.length ≤ 63 ∧ Only H ∧ ∀ H', Q (.bl true) H'
theorem ok_law {f : Addr} {fd : FuncData} (F : Fun K "law" "law" s_law f fd) (L : Law P w K mg g0 C N) (z_range : mg "range" = none) (z_tuple : mg "tuple" = none) (z_sorted : mg "sorted" = none) (z_len : mg "len" = none) (z_repr : mg "repr" = none) (z_int : mg "int" = none) (z_min : mg "min" = none)
    (C_deck : Cal P w K mg g0 "_law_deck" 1 ["_law_script"] (spDeck K)) (C_draw : Cal P w K mg g0 "_law_draw" 1 ["_law_deck_here", "_law_many"] spDraw)
    (C_tables : Cal P w K mg g0 "_law_tables" 4 ["_law_deck_here", "_law_many"] spTablesL) (C_schema : Cal P w K mg g0 "_law_schema" 6 ["_law_some"] (spSchemaL C))
    (C_whole : Cal P w K mg g0 "_law_whole" 2 ["_law_some"] spWhole) (C_heard : Cal P w K mg g0 "_law_heard" 7 ["_law_whole_here"] spHeard) (C_wrong : Cal P w K mg g0 "_law_wrong" 3 ["_law_deck_here", "_law_one"] spWrong) :
    GOk P w K mg g0 CX0 8 f fd ["_law_script"] (spLaw K) := by
  have nd := sc_law.nd
  have B := L.ref
  have Tx := B.tx
  obtain ⟨fe, E_s, E_f, E_n, E_F⟩ := L.eq
  obtain ⟨tp, tg, tf, pT, FT, bT⟩ := L.pT
  obtain ⟨rp, rg, rf, pR, FR, bR⟩ := B.pR
  obtain ⟨fl, S_l1, S_l2, S_len⟩ := L.ln
  obtain ⟨mc, cp, cg, cfd, RD, MT, FC, bC, KB⟩ := B.rd
  refine okG F sc_law (fun vs H Q E h => ?_) (fun cdv A up s H vs Q E qt hr h => ?_)
  · obtain ⟨a, xs, rfl, _⟩ := h
    rfl
  · obtain ⟨a, xs, rfl, hs, lx, oH, k⟩ := h
    have hu := hu_of hr
    refine ⟨_, (pss_cons (ps_par (i := 3) (j := 4) (by rfl) nd rfl rfl (by decide) rfl rfl (pa_cons (pe_c C_deck qt (hr.mono (by decide)) (pa_cons (pv 0) pa_nil)) (pa_cons pe_str pa_nil)) (by rfl))
        (pss_cons (ps_for PassesOwn.never rfl (pi_range1 (by rfl) z_range (pa_cons pe_int pa_nil)) (pg_name (i := 1) nd rfl (Or.inl rfl)) (pss_cons (ps_set (i := 5) nd rfl (Or.inl rfl) (pe_c C_tables qt (hr.mono (by decide)) (pa_cons (pv 3) (pa_cons (pe_c C_draw qt (hr.mono (by decide)) (pa_cons (pv 3) (pa_cons pe_int pa_nil))) pa_nil))))
        (pss_cons (ps_par (i := 8) (j := 9) (by rfl) nd rfl rfl (by decide) rfl rfl (pa_cons (pe_c C_schema qt (hr.mono (by decide)) (pa_cons (pv 5) pa_nil)) (pa_cons (pe_c C_whole qt (hr.mono (by decide)) (pa_cons (pe_callB (call_sortedA hr.units) (by rfl) z_sorted (by decide +kernel) (pa_cons (pv 5) pa_nil)) pa_nil)) pa_nil)) (by rfl))
        (pss_cons (ps_set (i := 6) nd rfl (Or.inl rfl) (ClX.pe_cmeth (E := E0) (pe_glob (v := .ref C) rfl B.gC rfl) RD MT (rawX FC bC) (hr.mono (by decide)) (passes_call takes0 (fun _ _ _ _ h => h)) (pa_cons (pv 9) pa_nil)))
        (pss_cons (ps_if (PW.pt (pw_or (pt_cmpR op_ne (pe_prop (pv 8) Tx.cl pT FT (hr.mono (by decide)) bT .nil pass0 rfl) (pv 9) (nomark _)) (pw_or (pt_cmpR op_ne (pe_prop (pv 6) Tx.cl pT FT (hr.mono (by decide)) bT .nil pass0 rfl) (pv 9) (nomark _)) (pw_or1 (pt_cmpR op_notBl (pe_cmpR (op_eqO E_s E_f E_n E_F (hr.mono (by decide)) pass0) (pv 6) (pv 8) (nomark _)) pe_bl (nomark _)))))) (pss_one (ps_ret pe_bl)) pss_nil)
        (pss_cons (ps_if (PW.pt (pw_or (pt_cmpR op_ne (pe_callB (call_repr qt hr.units) (by rfl) z_repr (by decide +kernel) (pa_cons (pe_prop (pv 6) Tx.cl pR FR (hr.mono (by decide)) bR .nil pass0 rfl) pa_nil)) (pe_callB (call_repr qt hr.units) (by rfl) z_repr (by decide +kernel) (pa_cons (pe_callTy call_tuple_of (by rfl) z_tuple (by decide +kernel) (pa_cons (pe_callB (call_sortedA hr.units) (by rfl) z_sorted (by decide +kernel) (pa_cons (pv 5) pa_nil)) pa_nil)) pa_nil)) (nomark _)) (pw_or1 (pt_cmpR op_ne (pe_prop (ClX.pe_cmeth (E := E0) (pe_glob (v := .ref C) rfl B.gC rfl) RD MT (rawX FC bC) (hr.mono (by decide)) (passes_call takes0 (fun _ _ _ _ h => h)) (pa_cons (pv 4) pa_nil)) Tx.cl pT FT (hr.mono (by decide)) bT .nil pass0 rfl) (pv 4) (nomark _))))) (pss_one (ps_ret pe_bl)) pss_nil)
        (pss_cons (ps_set (i := 4) nd rfl (Or.inl rfl) (pv 9))
        (pss_one (ps_for PassesOwn.never rfl (pi_range1 (by rfl) z_range (pa_cons (pe_op op_mul pe_int (pe_callTy call_int1 (by rfl) z_int (by decide +kernel) (pa_cons (pe_cmpR (op_neD hr.units) (pv 5) (pe_lst pa_nil) (nomark _)) pa_nil))) pa_nil)) (pg_name (i := 7) nd rfl (Or.inl rfl)) (pss_cons (ps_par3 (i := 10) (j := 11) (l := 12) (by rfl) nd rfl rfl rfl (by decide) (by decide) (by decide) rfl rfl rfl (pa_cons (pe_callB (call_sortedA hr.units) (by rfl) z_sorted (by decide +kernel) (pa_cons (pv 5) pa_nil)) (pa_cons (pe_c C_draw qt (hr.mono (by decide)) (pa_cons (pv 3) (pa_cons (pe_callB (c_lenK (K := K) rfl) (by rfl) z_len (by decide +kernel) (pa_cons (pv 5) pa_nil)) pa_nil))) (pa_cons (pe_c C_draw qt (hr.mono (by decide)) (pa_cons (pv 3) (pa_cons (pe_callB (c_lenK (K := K) rfl) (by rfl) z_len (by decide +kernel) (pa_cons (pv 5) pa_nil)) pa_nil))) pa_nil))) (by rfl))
        (pss_cons (ps_asg (pe_c C_wrong qt (hr.mono (by decide)) (pa_cons (pv 3) (pa_cons (pe_ix ix_seq (pv 10) (pv 11) (fun _ _ => rfl)) pa_nil))) (pg_sub (pv 10) (pv 11) set_list))
        (Evl.pss_cut (ps_if (PW.pt (pw_and (pt_cmpR op_eq (pe_op op_mod (pv 7) pe_int) pe_int (nomark _)) (pw_and1 (pt_cmpR op_ne (pv 12) (pv 11) (nomark _))))) (pss_cons (ps_asg (pe_c C_wrong qt (hr.mono (by decide)) (pa_cons (pv 3) (pa_cons (pe_ix ix_seq (pv 10) (pv 12) (fun _ _ => rfl)) pa_nil))) (pg_sub (pv 10) (pv 12) set_list))
        (pss_one (ps_set (i := 11) nd rfl (Or.inl rfl) (pe_callB (call_min2 rfl) (by rfl) z_min (by decide +kernel) (pa_cons (pv 11) (pa_cons (pv 12) pa_nil)))))) pss_nil)
        (pss_one (ps_if (pt_cmpR op_ne (pe_callB (call_repr qt hr.units) (by rfl) z_repr (by decide +kernel) (pa_cons (pe_c C_heard qt (hr.mono (by decide)) (pa_cons (pe_c C_whole qt (hr.mono (by decide)) (pa_cons (pv 10) pa_nil)) pa_nil)) pa_nil)) (pe_callB (call_repr qt hr.units) (by rfl) z_repr (by decide +kernel) (pa_cons (pe_tup (pa_cons pe_str (pa_cons (pv 11) pa_nil))) pa_nil)) (nomark _)) (pss_one (ps_ret pe_bl)) pss_nil))))))))))))))
        (pss_cons (ps_set (i := 2) nd rfl (Or.inl rfl) (pe_join pe_str (pe_lc (own := [("_law_name", 13)]) (g := (gName 13)) (tt := tYes) (te := (tOp _ (tOp _ (tC (.str "table ")) (tVar 13)) (tC (.str " (a)")))) (by rfl) nd (pi_str pe_str) (blkOk_by (own := [("_law_name", 13)]) (N := ["_law_script", "_law_turn", "_law_five", "_law_deck_here", "_law_behind", "_law_some", "_law_again", "_law_k", "_law_schema_here", "_law_whole_here", "_law_rows", "_law_at", "_law_other", "_law_name"]) (sc := defScope s_law) (by decide +kernel)) (fun _ _ _ _ _ => by exact (pg_name (i := 13) nd rfl (Or.inl rfl))) (fun _ _ _ _ _ => by exact pts_nil) (fun _ _ _ _ _ => by exact (pe_op op_add_str (pe_op op_add_str pe_str (pv 13)) pe_str)))))
        (pss_cons (ps_if (PW.pt (pw_or (pt_cmpR op_ne (pe_prop (ClX.pe_cmeth (E := E0) (pe_glob (v := .ref C) rfl B.gC rfl) RD MT (rawX FC bC) (hr.mono (by decide)) (passes_call takes0 (fun _ _ _ _ h => h)) (pa_cons (pv 2) pa_nil)) Tx.cl pT FT (hr.mono (by decide)) bT .nil pass0 rfl) (pv 2) (nomark _)) (pw_or1 (pt_cmpR op_ne (pe_callB (call_repr qt hr.units) (by rfl) z_repr (by decide +kernel) (pa_cons (pe_callB (call_lenO S_l1 S_l2 S_len (hr.mono (by decide)) pass0) (by rfl) z_len (by decide +kernel) (pa_cons (ClX.pe_cmeth (E := E0) (pe_glob (v := .ref C) rfl B.gC rfl) RD MT (rawX FC bC) (hr.mono (by decide)) (passes_call takes0 (fun _ _ _ _ h => h)) (pa_cons (pv 2) pa_nil)) pa_nil)) pa_nil)) pe_str (nomark _))))) (pss_one (ps_ret pe_bl)) pss_nil)
        (pss_one (ps_ret (pe_and (pe_cmpR op_eq (pe_callB (call_repr qt hr.units) (by rfl) z_repr (by decide +kernel) (pa_cons (pe_c C_heard qt (hr.mono (by decide)) (pa_cons pe_str pa_nil)) pa_nil)) (pe_callB (call_repr qt hr.units) (by rfl) z_repr (by decide +kernel) (pa_cons (pe_tup (pa_cons pe_str (pa_cons (pe_tup pa_nil) pa_nil))) pa_nil)) (nomark _)) (pe_one (pe_cmpR op_eq (pe_prop (pe_cmK0 (E := fun _ => E0) (pe_glob (v := .ref C) rfl B.gC rfl) RD MT FC (hr.mono (by decide)) KB (fun σ pins H s e s' I h => passes_call takes0 (fun _ _ _ _ h => h) pins σ H s e s' I h) (pk_cons pe_str pk_nil)) Tx.cl pT FT (hr.mono (by decide)) bT .nil pass0 rfl) pe_str (nomark _)))))))))), ?_⟩
    walk_at "rr"
    refine ⟨a, xs, rfl, hs, lx, fun d c H1 hd hc D1 s1 => ?_⟩
    walk_at "rr"
    refine ⟨6, rfl, by decide, by decide, ?_⟩
    let Pv : Nat → L2.St → Hp → Prop := fun i σ H' => ∃ (bs : List T) (o1 o2 o5 o6 o7 o8 o9 o10 o11 o12 o13 : Option V), σ = [some (.ref a), o1, o2, some (.ref d), some (.str (wholeOf bs)), o5, o6, o7, o8, o9, o10, o11, o12, o13] ∧ Good bs ∧ Deck d c (200 * i) H'
    refine for_it (walk_range (lo := 0) (n := 6)) Pv ⟨[], none, none, none, none, none, none, none, none, none, none, none, by rw [whole_nil]; rfl, good_nil, by simpa using D1⟩ (fun _ _ _ _ _ => trivial) (fun i x σ H2 H3 hi h y => ?_) fun σ H2 h => ?_
    · obtain ⟨bs, o1, o2, o5, o6, o7, o8, o9, o10, o11, o12, o13, rfl, gb, D2⟩ := h
      obtain ⟨rfl, rfl⟩ := y
      walk_at "rr"
      refine ⟨d, c, 200 * i, 5, rfl, D2, by omega, by decide, by decide, fun r H4 r0 r1 D4 x4 => ?_⟩
      obtain ⟨r, rfl⟩ := Int.eq_ofNat_of_zero_le r0
      walk_at "rr"
      refine ⟨d, c, 200 * i + 1, r, rfl, D4, by omega, by omega, fun l ts H5 lt T5 hl nl fl D5 x5 => ?_⟩
      walk_at "rr"
      have l4 : ts.length ≤ 4 := by omega
      refine ⟨l, ts, rfl, hl, T5, l4, fun p zs0 H6 S6 s6 => ?_⟩
      have hl6 := s6 _ _ hl
      have T6 := T5.ext (M := fun _ => False) (Same.ext s6)
      have D6 := D5.same s6
      walk_at "rr"
      refine sorted_of hl6 T6.at_ T6.nd (by omega) fun zs q hq pm az => ?_
      obtain rfl := perm_asc (S6.perm.trans pm.symm) S6.asc az
      generalize eq : upd H6 q _ = H7
      obtain ⟨s7, hq7⟩ := upd_tells eq hq
      clear eq hq
      have S7 := S6.same s7
      have hl7 := s7 _ _ hl6
      have T7 := T6.ext (M := fun _ => False) (Same.ext s7)
      have D7 := D6.same s7
      clear S6 s6 T6 D6 hl6 hl T5 D5
      have zok : ∀ x ∈ zs0, TAt H7 x.1 x.2 ∧ x.2.Ok := fun x hx => S7.ok x (pm.mem_iff.mp hx)
      have l5 : zs0.length ≤ 5 := by rw [pm.length_eq]; omega
      have gz := good_of (fun x hx => (zok x hx).2) l5 az
      walk_at "rr"
      refine ⟨q, zs0, rfl, hq7, fun x hx => ⟨(zok x hx).1, (zok x hx).2.small⟩, l5, fun H8 s8 => ?_⟩
      rw [whole_line]
      have S8 := S7.same s8
      have hl8 := s8 _ _ hl7
      have T8 := T7.ext (M := fun _ => False) (Same.ext s8)
      have D8 := D7.same s8
      clear s7 s8 S7 T7 D7 hl7 hq7
      generalize eu : zs0.map (·.2) = us at gz
      walk_at "rr"
      refine ⟨rfl, ?_⟩
      walk_at "rr"
      refine ⟨us, rfl, gz.1, fun _ a1 ats H9 ea S9 s9 => ?_, fun i b => absurd b (gz.no i)⟩
      have S89 := S8.same s9
      have hl9 := s9 _ _ hl8
      have T9 := T8.ext (M := fun _ => False) (Same.ext s9)
      have D9 := D8.same s9
      clear s9 S8 T8 D8 hl8
      obtain ⟨d1, d2, d3, d4, _⟩ := id S89.ex
      obtain ⟨e1, e2, e3, e4, _⟩ := id S9.ex
      walk_at "rr"
      refine ⟨_, rfl, p, d1, _, rfl, d4, p, ts, zs0, rfl, S89, fun H10 s10 => ?_⟩
      rw [text_whole, eu]
      walk_at "rr"
      rw [decide_eq_true rfl]
      walk_at "rr"
      refine ⟨_, rfl, a1, e1, _, rfl, s10 _ _ e4, a1, ats, ats, rfl, S9.same s10, fun H11 s11 => ?_⟩
      rw [text_whole, ea]
      walk_at "rr"
      rw [decide_eq_true rfl]
      walk_at "rr"
      have s12 := s10.trans s11
      have Sb := S89.same s12
      have Sa := S9.same s12
      refine ⟨a1, e1, _, rfl, s12 _ _ e4, .inr (.inr (.inr (.inr (.inr (.inr (.inr ⟨p, d1, _, rfl, s12 _ _ d4⟩)))))), a1, ats, ats, _, rfl, Sa, .inr ⟨p, ts, zs0, rfl, Sb, _, rfl, ?_⟩⟩
      rw [decide_eq_true (show ats.map (·.2) = zs0.map (·.2) by rw [ea, eu])]
      walk_at "rr"
      refine ⟨_, _, rfl, rfl, ?_⟩
      walk_at "rr"
      refine k_sureN rfl ?_
      walk_at "rr"
      have hl12 := s12 _ _ hl9
      have T12 := T9.ext (M := fun _ => False) (Same.ext s12)
      have D12 := D9.same s12
      clear S89 S9 hl9 T9 D9 s10 s11 Sb
      refine ⟨_, rfl, a1, e1, _, rfl, s12 _ _ e4, a1, ats, ats, rfl, Sa, fun tt htt => ?_⟩
      walk_at "rr"
      have aok : ∀ x ∈ ats, TAt H11 x.1 x.2 ∧ x.2.Ok := Sa.ok
      have rp := rep_tabs gz.2 gz.1.1
      have dp1 := dp_tabs (K := (cxOf CX0 P w K mg g0 ["_law_script", "_law_turn", "_law_five", "_law_deck_here", "_law_behind", "_law_some", "_law_again", "_law_k", "_law_schema_here", "_law_whole_here", "_law_rows", "_law_at", "_law_other", "_law_name"] "law" (defScope s_law) f cdv A up s H E).nox.K) htt fun x hx => (aok x hx).1
      rw [ea] at dp1
      refine ⟨.ref tt, _, rfl, dp1, rp.1, rp.2.1, rp.2.2, ?_⟩
      walk_at "rr"
      refine sorted_of hl12 T12.at_ T12.nd (by omega) fun zs q2 hq2 pm2 az2 => ?_
      obtain rfl := perm_asc (pm2.trans pm.symm) az2 az
      generalize eq : upd H11 q2 _ = H13
      obtain ⟨s13, hq13⟩ := upd_tells eq hq2
      clear eq hq2
      walk_at "rr"
      refine ⟨q2, _, rfl, .inl ⟨SqL.of hq13, fun q3 hq3 => ?_⟩⟩
      generalize eq : upd H13 q3 _ = H14
      obtain ⟨s14, hq14⟩ := upd_tells eq hq3
      clear eq hq3
      walk_at "rr"
      have s15 := s12.trans (s13.trans s14)
      have hl14 := (s13.trans s14) _ _ hl12
      have T14 := T12.ext (M := fun _ => False) (Same.ext (s13.trans s14))
      have D14 := D12.same (s13.trans s14)
      have dp2 := dp_tabs (K := (cxOf CX0 P w K mg g0 ["_law_script", "_law_turn", "_law_five", "_law_deck_here", "_law_behind", "_law_some", "_law_again", "_law_k", "_law_schema_here", "_law_whole_here", "_law_rows", "_law_at", "_law_other", "_law_name"] "law" (defScope s_law) f cdv A up s H E).nox.K) hq14 fun x hx => T14.at_ x (pm2.mem_iff.mp hx)
      rw [eu] at dp2
      refine ⟨.ref q3, _, rfl, dp2, rp.1, rp.2.1, rp.2.2, ?_⟩
      clear dp1 dp2 s13 s14 s15 hq13 hq14 hl12 T12 D12 Sa aok htt s12
      walk_at "rr"
      rw [decide_eq_true rfl]
      walk_at "rr"
      refine ⟨rfl, ?_⟩
      walk_at "rr"
      refine ⟨bs, rfl, gb.1, fun _ a2 bts H15 eb S15 s15 => ?_, fun i b => absurd b (gb.no i)⟩
      obtain ⟨f1, f2, f3, f4, _⟩ := id S15.ex
      refine ⟨a2, f1, _, rfl, f4, a2, bts, bts, rfl, S15, fun H16 s16 => ?_⟩
      rw [text_whole, eb]
      walk_at "rr"
      rw [decide_eq_true rfl]
      walk_at "rr"
      have hl16 := s16 _ _ (s15 _ _ hl14)
      have T16 := (T14.ext (M := fun _ => False) (Same.ext s15)).ext (M := fun _ => False) (Same.ext s16)
      have D16 := (D14.same s15).same s16
      clear s15 s16 S15 hl14 T14 D14 f4
      refine ⟨k_sz rfl, fun pe hpe => ?_⟩
      generalize eq : upd H16 pe _ = H17
      obtain ⟨s17, hpe17⟩ := upd_tells eq hpe
      clear eq hpe
      have hl17 := s17 _ _ hl16
      have T17 := T16.ext (M := fun _ => False) (Same.ext s17)
      have D17 := D16.same s17
      refine ⟨_, _, dp_tabsL hl17 (fun y hy => T17.at_ y hy), .lst (SqL.of hpe17) .nil, shaped_tabsL (fun t ht => by obtain ⟨y, hy, rfl⟩ := List.mem_map.mp ht; exact T17.ok y hy), by decide +kernel, ?_⟩
      have ev : PyData.eqv (.list ((ts.map (·.2)).map T.data)) (.list []) = decide (ts = []) := by
        match ts with
        | [] => simp [PyData.eqv, PyData.eqvAll]
        | y :: r => simp [PyData.eqv, PyData.eqvAll]
      rw [ev]
      clear ev s17 hpe17 hl16 T16 D16
      walk_at "rr"
      refine .inr ⟨_, rfl, ?_⟩
      obtain ⟨n, en, n6, npos⟩ : ∃ n : Nat, (6 * (if (!decide (ts = [])) = true then 1 else 0) : Int) = (n : Int) ∧ n ≤ 6 ∧ (0 < n → ts ≠ []) := by
        by_cases e0 : ts = []
        · exact ⟨0, by rw [decide_eq_true e0]; rfl, by decide, fun z => absurd z (by decide)⟩
        · exact ⟨6, by rw [decide_eq_false e0]; rfl, by decide, fun _ => e0⟩
      refine k_mulE (.inl ⟨by decide, by decide⟩) en ?_
      clear en
      walk_at "rr"
      refine ⟨(n : Int), rfl, by omega, by omega, ?_⟩
      rw [Int.toNat_natCast]
      let Pw : Nat → L2.St → Hp → Prop := fun j σ H' => ∃ o7 o10 o11 o12 : Option V, σ = [some (.ref a), some (.int (0 + (i : Int))), o2, some (.ref d), some (.str (wholeOf us)), some (.ref l), some (.ref a1), o7, some (.ref p), some (.str (wholeOf us)), o10, o11, o12, o13] ∧ Deck d c (200 * i + 151 + 6 * j) H' ∧ Ext (Dk d c) H17 H'
      refine for_it (walk_range (lo := 0) (n := n)) Pw ⟨o7, o10, o11, o12, rfl, by simpa using D17.mono (by omega), .refl _⟩ (fun _ _ _ _ _ => trivial) (fun j x σ H18 H19 hj h y => ?_) fun σ H18 h => ?_
      · obtain ⟨o7, o10, o11, o12, rfl, D18, x18⟩ := h
        obtain ⟨rfl, rfl⟩ := y
        have hl18 := x18.2 _ _ nl hl17
        have T18 := T17.ext x18
        have tpos : 0 < ts.length := List.length_pos_iff.mpr (npos (by omega))
        walk_at "rr"
        refine k_par3 ?_
        walk_at "rr"
        refine sorted_of hl18 T18.at_ T18.nd (by omega) fun zs q4 hq4 pm4 az4 => ?_
        obtain rfl := perm_asc (pm4.trans pm.symm) az4 az
        have f4 : H17 q4 = none := ext_free x18 (D18.off hq4) hq4
        have n4 := D18.off hq4
        generalize eq : upd H19 q4 _ = H20
        obtain ⟨s20, hq20⟩ := upd_tells eq hq4
        clear eq hq4
        have D20 := D18.same s20
        have hl20 := s20 _ _ hl18
        have x20 := x18.trans (Same.ext s20)
        walk_at "rr"
        have rl : (refsOf ts).length = ts.length := List.length_map ..
        rw [rl]
        refine ⟨d, c, _, _, rfl, D20, by omega, by omega, by omega, fun at_ H21 a0 a1' D21 x21 => ?_⟩
        obtain ⟨at_, rfl⟩ := Int.eq_ofNat_of_zero_le a0
        have hl21 := x21.2 _ _ nl hl20
        walk_at "rr"
        rw [rl]
        refine ⟨d, c, _, _, rfl, D21, by omega, by omega, by omega, fun ot H22 b0 b1 D22 x22 => ?_⟩
        obtain ⟨ot, rfl⟩ := Int.eq_ofNat_of_zero_le b0
        have lz := pm.length_eq
        have hq22 := x22.2 _ _ n4 (x21.2 _ _ n4 hq20)
        have x2 := (x20.trans x21).trans x22
        have z22 : ∀ x ∈ zs, TAt H22 x.1 x.2 ∧ x.2.Ok := fun x hx => ⟨(T17.at_ x (pm.mem_iff.mp hx)).ext x2, T17.ok x (pm.mem_iff.mp hx)⟩
        clear s20 hq20 D20 hl20 x20 x21 x22 hl21 D21 hl18 T18 x18 D18
        walk_at "rr"
        refine ⟨_, _, _, rfl, ?_⟩
        walk_at "rr"
        obtain ⟨x0, hx0⟩ : ∃ x, zs[at_]? = some x := ⟨_, List.getElem?_eq_getElem (by omega)⟩
        have ex0 : atI (refsOf zs) (at_ : Int) = some (V.ref x0.1) := atI_nat (by unfold refsOf; rw [List.getElem?_map, hx0]; rfl)
        refine k_ixqL (SqL.of hq22) ex0 ?_
        walk_at "rr"
        have m0 := List.mem_of_getElem? hx0
        refine ⟨d, c, x0.1, _, x0.2, rfl, D22, by omega, (z22 x0 m0).1, (z22 x0 m0).2, fun t1 r1 H23 w1 ta1 D23 x23 => ?_⟩
        have hq23 := x23.2 _ _ n4 hq22
        walk_at "rr"
        have R0 := Rw.start fun x hx => (z22 x hx).2
        have R1 := R0.set (r := r1) hx0 w1
        refine k_setL (j := at_) hq23 (by unfold refsOf; rw [List.length_map]; exact Evl.ixN_nat (by omega)) ?_
        rw [refs_set zs at_ (r1, t1)]
        have tp : Tups H23 (upd H23 q4 (.lst (refsOf (zs.set at_ (r1, t1))))) := tups_upd hq23 fun _ z => by cases z
        have D24 := D23.offL (o := .lst (refsOf (zs.set at_ (r1, t1)))) n4
        have hq24 := upd_same (H := H23) (a := q4) (o := .lst (refsOf (zs.set at_ (r1, t1))))
        have x24 := ext_off (o := .lst (refsOf (zs.set at_ (r1, t1)))) (x2.trans x23) f4
        have ta : ∀ x ∈ zs.set at_ (r1, t1), TAt (upd H23 q4 (.lst (refsOf (zs.set at_ (r1, t1))))) x.1 x.2 := fun x hx => by
          rcases List.mem_or_eq_of_mem_set hx with hx | rfl
          · exact ((z22 x hx).1.ext x23).tups tp
          · exact ta1.tups tp
        generalize upd H23 q4 (.lst (refsOf (zs.set at_ (r1, t1)))) = H24 at D24 hq24 x24 ta ⊢
        have lw : (zs.set at_ (r1, t1)).length = zs.length := List.length_set ..
        have hw0 : (zs.set at_ (r1, t1))[at_]? = some (r1, t1) := List.getElem?_set_self (by omega)
        generalize zs.set at_ (r1, t1) = ws at R1 hq24 ta lw hw0
        clear tp hq23 D23 x23 ta1 hq22 D22 x2 z22
        walk_at "rr"
        let Mid : L2.St → Hp → Prop := fun σ' H' => ∃ (ws : List AT) (b : Nat), σ' = [some (.ref a), some (.int (0 + (i : Int))), o2, some (.ref d), some (.str (wholeOf us)), some (.ref l), some (.ref a1), some (.int (0 + (j : Int))), some (.ref p), some (.str (wholeOf us)), some (.ref q4), some (.int b), some (.int ot), o13] ∧
          H' q4 = some (.lst (refsOf ws)) ∧ (∀ x ∈ ws, TAt H' x.1 x.2) ∧ (∃ S, Rw zs ws S ∧ S b ∧ ∀ k, k < b → ¬ S k) ∧ b < zs.length ∧ Deck d c (200 * i + 151 + 6 * j + 6) H' ∧ Ext (Dk d c) H17 H'
        refine ⟨Mid, ?_, ?_⟩
        · walk_at "rr"
          have no : Mid [some (.ref a), some (.int (0 + (i : Int))), o2, some (.ref d), some (.str (wholeOf us)), some (.ref l), some (.ref a1), some (.int (0 + (j : Int))), some (.ref p), some (.str (wholeOf us)), some (.ref q4), some (.int at_), some (.int ot), o13] H24 :=
            ⟨ws, at_, rfl, hq24, ta, ⟨_, R1, .inr rfl, fun k hk z => by rcases z with z | z; exact z; omega⟩, by omega, D24.mono (by omega), x24⟩
          refine k_iteD (fun _ => ?_) fun _ => ?_
          · walk_at "rr"
            by_cases eo : ot = at_
            · subst eo
              rw [decide_eq_true rfl]
              walk_at "rr"
              exact no
            · rw [decide_eq_false fun z => eo (by have := V.int.inj z; omega)]
              walk_at "rr"
              have lo : ot < ws.length := by omega
              obtain ⟨y0, hy0⟩ : ∃ x, ws[ot]? = some x := ⟨_, List.getElem?_eq_getElem lo⟩
              have ey0 : atI (refsOf ws) (ot : Int) = some (V.ref y0.1) := atI_nat (by unfold refsOf; rw [List.getElem?_map, hy0]; rfl)
              refine k_ixqL (SqL.of hq24) ey0 ?_
              walk_at "rr"
              have my := List.mem_of_getElem? hy0
              have oky : y0.2.Ok := R1.good ot y0 hy0 fun z => by rcases z with z | z; exact z; exact eo z
              refine ⟨d, c, y0.1, _, y0.2, rfl, D24, by omega, ta y0 my, oky, fun t2 r2 H25 w2 ta2 D25 x25 => ?_⟩
              have hq25 := x25.2 _ _ n4 hq24
              walk_at "rr"
              refine k_setL (j := ot) hq25 (by unfold refsOf; rw [List.length_map]; exact Evl.ixN_nat lo) ?_
              rw [refs_set ws ot (r2, t2)]
              have tp : Tups H25 (upd H25 q4 (.lst (refsOf (ws.set ot (r2, t2))))) := tups_upd hq25 fun _ z => by cases z
              walk_at "rr"
              refine ⟨_, _, rfl, ?_⟩
              have em : V.int (if (ot : Int) < (at_ : Int) then (ot : Int) else (at_ : Int)) = V.int ((min at_ ot : Nat) : Int) := by
                congr 1
                by_cases z : ot < at_
                · rw [if_pos (by omega)]
                  omega
                · rw [if_neg (by omega)]
                  omega
              rw [em]
              walk_at "rr"
              refine ⟨ws.set ot (r2, t2), min at_ ot, rfl, upd_same, fun x hx => ?_, ⟨_, R1.set hy0 w2, ?_, fun k hk z => ?_⟩, by omega, (D25.offL n4).mono (by omega), ext_off (x24.trans x25) f4⟩
              · rcases List.mem_or_eq_of_mem_set hx with hx | rfl
                · exact ((ta x hx).ext x25).tups tp
                · exact ta2.tups tp
              · by_cases z : ot < at_
                · exact .inr (by omega)
                · exact .inl (.inr (by omega))
              · rcases z with (z | z) | z
                · exact z
                · omega
                · omega
          · walk_at "rr"
            exact no
        · rintro σ' H' ⟨ws, b, rfl, hq25, ta25, ⟨S, R, Sb, Sk⟩, lb, D25, x25⟩
          have len : ws.length = zs.length := by
            have := congrArg List.length R.nm
            unfold namesOf at this
            rw [List.length_map, List.length_map] at this
            exact this
          walk_at "rr"
          refine ⟨q4, ws, rfl, hq25, fun x hx => ⟨ta25 x hx, (R.wf x hx).1.small⟩, by omega, fun H26 s26 => ?_⟩
          rw [whole_line]
          walk_at "rr"
          have rd : Reads (ws.map (·.2)) := by
            refine ⟨by rw [List.length_map]; omega, fun t ht => ?_, ?_⟩
            · obtain ⟨x, hx, rfl⟩ := List.mem_map.mp ht
              exact R.wf x hx
            · rw [List.map_map]
              have := R.nm
              unfold namesOf at this az
              exact (show (ws.map fun x : AT => x.2.nm).Pairwise sLt by rw [this]; exact az)
          have getw : ∀ k t, (ws.map (·.2))[k]? = some t → ∃ x : AT, ws[k]? = some x ∧ x.2 = t := fun k t h => by
            rw [List.getElem?_map] at h
            obtain ⟨x, hx, e⟩ := Option.map_eq_some_iff.mp h
            exact ⟨x, hx, e⟩
          have bb : BadT (ws.map (·.2)) b := by
            obtain ⟨x, hx⟩ : ∃ x, ws[b]? = some x := ⟨_, List.getElem?_eq_getElem (by omega)⟩
            exact ⟨x.2, by rw [List.getElem?_map, hx]; rfl, R.bad b x hx Sb⟩
          have nb : ∀ k, k < b → ¬ BadT (ws.map (·.2)) k := fun k hk ⟨t, ht, bad⟩ => by
            obtain ⟨x, hx, rfl⟩ := getw k t ht
            exact bad (R.good k x hx (Sk k hk))
          refine ⟨ws.map (·.2), rfl, rd, fun none => absurd bb (none b), fun k bk fk r H27 s27 hr27 => ?_⟩
          obtain rfl : k = b := by
            rcases Nat.lt_trichotomy k b with z | z | z
            · exact absurd bk (nb k z)
            · exact z
            · exact absurd bb (fk b z)
          have rp := rep_index k (by omega)
          walk_at "rr"
          refine ⟨.ref r, _, rfl, .tup (SqT.of hr27) (.cons (.str _) (.cons (.int _) .nil)), rp.1, rp.2.1, rp.2.2, ?_⟩
          walk_at "rr"
          refine ⟨k_sz rfl, fun r5 hr5 => ?_⟩
          generalize eq : upd H27 r5 _ = H28
          obtain ⟨s28, hr28⟩ := upd_tells eq hr5
          clear eq hr5
          walk_at "rr"
          refine ⟨.ref r5, _, rfl, .tup (SqT.of hr28) (.cons (.str _) (.cons (.int _) .nil)), rp.1, rp.2.1, rp.2.2, ?_⟩
          walk_at "rr"
          rw [decide_eq_true rfl]
          walk_at "rr"
          have ss := (s26.trans s27).trans s28
          exact ⟨_, _, _, _, rfl, (D25.same ss).mono (by omega), x25.trans (Same.ext ss)⟩
      · obtain ⟨o7, o10, o11, o12, rfl, D18, x18⟩ := h
        walk_at "rr"
        exact ⟨us, _, _, _, _, _, _, _, _, _, _, _, rfl, gz, D18.mono (by omega)⟩
    · obtain ⟨bs, o1, o2, o5, o6, o7, o8, o9, o10, o11, o12, o13, rfl, gb, D2⟩ := h
      walk_at "rr"
      refine ⟨⟨_, rfl⟩, ?_⟩
      walk_at "rr"
      refine ⟨_, rfl, fun L0 hL0 => ?_⟩
      refine lc_same walk_str (fun i => match (fiveT.map lineOf)[i]? with | some z => .str z | none => .non) (fun _ => true) (by show 5 < 100000; decide) hL0 (fun _ _ => trivial) (fun i x H5 H6 hi s5 yy Q1 R1 q1 r1 => ?_) fun H3 s3 hF => ?_
      · obtain ⟨rfl, ch, hch, rfl⟩ := yy
        have all : ∀ i < 5, fives[i]? = (Str.ofString "abcde").cps[i]?.map fun c => (⟨#[c]⟩ : Str) := by decide +kernel
        have ei : fives[i]? = some ⟨#[ch]⟩ := by rw [all i hi, hch]; rfl
        have el : (fiveT.map lineOf)[i]? = some (Str.ofString "table " ++ ⟨#[ch]⟩ ++ Str.ofString " (a)") := by
          rw [← five_lines, List.getElem?_map, ei]
          rfl
        rw [el] at q1
        walk_at "rr"
        refine ⟨rfl, k_yes ?_⟩
        walk_at "rr"
        have w1 : (Str.ofString "table ").length = 6 := by decide +kernel
        have w2 : (Str.ofString " (a)").length = 4 := by decide +kernel
        have w3 : (⟨#[ch]⟩ : Str).length = 1 := rfl
        refine ⟨_, _, rfl, rfl, Nat.le_trans (show _ ≤ 100 by omega) (by decide), ?_⟩
        walk_at "rr"
        refine ⟨_, _, rfl, rfl, Nat.le_trans (show _ ≤ 100 by rw [Str.length_append]; omega) (by decide), ?_⟩
        exact q1 rfl _ (Same.refl _)
      have hF : H3 L0 = some (.lst ((fiveT.map lineOf).map V.str)) := by
        rw [hF, range_all]
        have := range_get (fiveT.map lineOf) (fun i => match (fiveT.map lineOf)[i]? with | some z => V.str z | none => .non) V.str (fun k x e => by simp only [e])
        exact congrArg (fun l => some (HO.lst l)) this
      walk_at "rr"
      refine ⟨_, L0, fiveT.map lineOf, rfl, rfl, .inl (SqL.of hF), by decide +kernel, ?_⟩
      rw [show Txt.join (Str.ofString "\n") (fiveT.map lineOf) = wholeOf fiveT from rfl]
      have gf := good_five
      have lf : fiveT.length = 5 := rfl
      generalize fiveT = fv at gf lf
      walk_at "rr"
      refine ⟨rfl, ?_⟩
      walk_at "rr"
      refine ⟨fv, rfl, gf.1, fun _ b1 bts H15 eb S15 s15 => ?_, fun i b => absurd b (gf.no i)⟩
      obtain ⟨f1, f2, f3, f4, _⟩ := id S15.ex
      refine ⟨b1, f1, _, rfl, f4, b1, bts, bts, rfl, S15, fun H16 s16 => ?_⟩
      rw [text_whole, eb]
      walk_at "rr"
      rw [decide_eq_true rfl]
      walk_at "rr"
      refine ⟨rfl, ?_⟩
      walk_at "rr"
      refine ⟨fv, rfl, gf.1, fun _ b2 cts H17 ec S17 s17 => ?_, fun i b => absurd b (gf.no i)⟩
      obtain ⟨g1, g2, g3, g4, _⟩ := id S17.ex
      walk_at "rr"
      have lc : cts.length = 5 := by rw [← lf, ← ec, List.length_map]
      refine ⟨b2, g1, _, rfl, g4, b2, cts, cts, rfl, S17, cts.length, rfl, by rw [lc]; decide, ?_⟩
      rw [lc]
      walk_at "rr"
      refine ⟨.int 5, _, rfl, .int _, by decide +kernel, by decide +kernel, by decide +kernel, ?_⟩
      walk_at "rr"
      rw [decide_eq_true (show V.str (PyData.int 5).shown = V.str (Str.ofString "5") by decide +kernel)]
      walk_at "rr"
      have gn := good_nil
      refine ⟨[], by rw [whole_nil]; rfl, gn.1, fun _ r t ats H18 s18 hr ea ht ha => ?_, fun i b => absurd b (gn.no i)⟩
      walk_at "rr"
      have en : ats = [] := List.map_eq_nil_iff.mp ea
      subst en
      have ht : H18 t = some (.tup []) := ht
      have rp : (PyData.tuple [.str "read", .tuple []]).showable = true ∧ (PyData.tuple [.str "read", .tuple []]).depth ≤ 60 ∧ (PyData.tuple [.str "read", .tuple []]).shown.length ≤ sizeLine := by decide +kernel
      refine ⟨.ref r, .tuple [.str "read", .tuple []], rfl, .tup (SqT.of hr) (.cons (.str _) (.cons (.tup (SqT.of ht) .nil) .nil)), rp.1, rp.2.1, rp.2.2, ?_⟩
      walk_at "rr"
      refine ⟨k_sz rfl, fun t2 ht2 => ?_⟩
      generalize eq : upd H18 t2 _ = H19
      obtain ⟨s19, h19⟩ := upd_tells eq ht2
      clear eq ht2
      walk_at "rr"
      refine ⟨k_sz rfl, fun t3 ht3 => ?_⟩
      generalize eq : upd H19 t3 _ = H20
      obtain ⟨s20, h20⟩ := upd_tells eq ht3
      clear eq ht3
      walk_at "rr"
      refine ⟨.ref t3, .tuple [.str "read", .tuple []], rfl, .tup (SqT.of h20) (.cons (.str _) (.cons (.tup (SqT.of (s20 _ _ h19)) .nil) .nil)), rp.1, rp.2.1, rp.2.2, ?_⟩
      walk_at "rr"
      rw [decide_eq_true rfl]
      walk_at "rr"
      refine ⟨rfl, ?_⟩
      walk_at "rr"
      refine ⟨rfl, rfl, [], by rw [whole_nil]; rfl, gn.1, fun _ b3 dts H21 ed S21 s21 => ?_, fun i b => absurd b (gn.no i)⟩
      obtain ⟨k1, k2, k3, k4, _⟩ := id S21.ex
      refine ⟨b3, k1, _, rfl, k4, b3, dts, dts, rfl, S21, fun H22 s22 => ?_⟩
      rw [text_whole, ed]
      walk_at "rr"
      rw [decide_eq_true (show V.str (wholeOf []) = V.str (Str.ofString "") by rw [whole_nil])]
      exact k _
end
end K03

set_option Elab.async false
set_option maxRecDepth 100000
set_option maxHeartbeats 4000000
set_option linter.unusedVariables false
namespace K03
open PySem PySem.Spec PyProof.Rows L2 Own
theorem all_mk {l : PySem.W.OpenLaw} {w : World} {K : PySem.W.Frag} {h : Heap} {mg : Str → Option Value} {fa C N prtables prtext prread : Addr} (X : K.In h) (G : h.Ns mainGlobals mg) (hfa : mg "law" = some (.ref fa))
    {fI : Addr} {odI anI : Option Addr} {slI : Array (Option Value)} {ocI kVI dcI pmI cdI ctI : Value}
    {flen : Addr} {odlen anlen : Option Addr} {sllen : Array (Option Value)} {oclen kVlen dclen pmlen cdlen ctlen : Value}
    {feq : Addr} {odeq aneq : Option Addr} {sleq : Array (Option Value)} {oceq kVeq dceq pmeq cdeq cteq : Value}
    {fR : Addr} {odR anR : Option Addr} {slR : Array (Option Value)} {ocR kVR dcR pmR cdR ctR : Value}
    {ftables : Addr} {odtables antables : Option Addr} {sltables : Array (Option Value)} {octables kVtables dctables pmtables cdtables cttables : Value}
    {ftext : Addr} {odtext antext : Option Addr} {sltext : Array (Option Value)} {octext kVtext dctext pmtext cdtext cttext : Value}
    {fNI : Addr} {odNI anNI : Option Addr} {slNI : Array (Option Value)} {ocNI kVNI dcNI pmNI cdNI ctNI : Value}
    {nmN qN : Str} {NN : Addr} {bsN bmN : List Value} {snN : List Str} {subN : List Value} {abN : Bool} {colN : Option Bool} {ddN : Option Addr} {m0N m1N m2N m3N m5N : Option Value}
    {resttables resttext restread : List Value} {tkL tkM : Tok}
    (aC : PySem.W.nsIn K mainGlobals "Schema" = some (some (.ref C)))
    (aN : PySem.W.nsIn K mainGlobals "InvalidSchema" = some (some (.ref N)))
    (vL : PySem.W.nsIn K mainGlobals "LETTERS" = some (some (.str letters tkL)))
    (vM : PySem.W.nsIn K mainGlobals "MOST_COLUMNS" = some (some (.int 3 tkM)))
    (pg : PySem.W.plainGet K C Str.empty = true)
    (hd : PySem.W.hasDictIn K C = true)
    (po : PySem.W.plainOver K C = true)
    (sa : PySem.W.findIn K (.ref C) "__setattr__" = some (some (.builtin "object.__setattr__")))
    (nN : PySem.W.findIn K (.ref C) "_named" = some none)
    (nT : PySem.W.findIn K (.ref C) "_tables" = some none)
    (mki : PySem.W.makesIn K C = true)
    (kC : PySem.W.keepIn K (.ref C) = true)
    (aI : PySem.W.findIn K (.ref C) "__init__" = some (some (.ref fI)))
    (iI : PySem.W.isFn K (.ref fI) = true)
    (lI : K.lookup fI = some ⟨ocI, odI, .func (PySem.W.fnOf "__init__" "Schema.__init__" (defArgs s_Schema___init__) (defBody s_Schema___init__) (defScope s_Schema___init__) .none kVI dcI pmI anI cdI ctI), slI⟩)
    (cI : PySem.W.codeIn K cdI "Schema.__init__" = true)
    (kI : PySem.W.keepIn K (.ref fI) = true)
    (alen : PySem.W.findIn K (.ref C) "__len__" = some (some (.ref flen)))
    (ilen : PySem.W.isFn K (.ref flen) = true)
    (llen : K.lookup flen = some ⟨oclen, odlen, .func (PySem.W.fnOf "__len__" "Schema.__len__" (defArgs s_Schema___len__) (defBody s_Schema___len__) (defScope s_Schema___len__) .none kVlen dclen pmlen anlen cdlen ctlen), sllen⟩)
    (clen : PySem.W.codeIn K cdlen "Schema.__len__" = true)
    (klen : PySem.W.keepIn K (.ref flen) = true)
    (aeq : PySem.W.findIn K (.ref C) "__eq__" = some (some (.ref feq)))
    (ieq : PySem.W.isFn K (.ref feq) = true)
    (leq : K.lookup feq = some ⟨oceq, odeq, .func (PySem.W.fnOf "__eq__" "Schema.__eq__" (defArgs s_Schema___eq__) (defBody s_Schema___eq__) (defScope s_Schema___eq__) .none kVeq dceq pmeq aneq cdeq cteq), sleq⟩)
    (ceq : PySem.W.codeIn K cdeq "Schema.__eq__" = true)
    (keq : PySem.W.keepIn K (.ref feq) = true)
    (rdC : PySem.W.readsIn K C (.type "type") = true)
    (gaC : PySem.W.specialIn K (.ref C) "__getattribute__" = some (some (.builtin "type.__getattribute__")))
    (atR : PySem.W.findCls K (.ref C) (.type "type") "read" = some (.get (.builtin "classmethod.__get__") (.ref prread) .none (.ref C)))
    (rcR : PySem.W.recIn K prread "classmethod" = some (.ref fR :: restread))
    (fiR : PySem.W.fnIn K fR = true)
    (lR : K.lookup fR = some ⟨ocR, odR, .func (PySem.W.fnOf "read" "Schema.read" (defArgs s_Schema_read) (defBody s_Schema_read) (defScope s_Schema_read) .none kVR dcR pmR anR cdR ctR), slR⟩)
    (cR : PySem.W.codeIn K cdR "Schema.read" = true)
    (kR : PySem.W.keepIn K (.ref fR) = true)
    (ptables : PySem.W.findIn K (.ref C) "tables" = some (some (.ref prtables)))
    (gtables : PySem.W.specialIn K (.ref prtables) "__get__" = some (some (.builtin "property.__get__")))
    (ttables : PySem.W.takesIn K (.ref prtables) = some true)
    (rtables : PySem.W.recIn K prtables "property" = some (.ref ftables :: resttables))
    (ltables : K.lookup ftables = some ⟨octables, odtables, .func (PySem.W.fnOf "tables" "Schema.tables" (defArgs s_Schema_tables) (defBody s_Schema_tables) (defScope s_Schema_tables) .none kVtables dctables pmtables antables cdtables cttables), sltables⟩)
    (ctables : PySem.W.codeIn K cdtables "Schema.tables" = true)
    (ktables : PySem.W.keepIn K (.ref ftables) = true)
    (ptext : PySem.W.findIn K (.ref C) "text" = some (some (.ref prtext)))
    (gtext : PySem.W.specialIn K (.ref prtext) "__get__" = some (some (.builtin "property.__get__")))
    (ttext : PySem.W.takesIn K (.ref prtext) = some true)
    (rtext : PySem.W.recIn K prtext "property" = some (.ref ftext :: resttext))
    (ltext : K.lookup ftext = some ⟨octext, odtext, .func (PySem.W.fnOf "text" "Schema.text" (defArgs s_Schema_text) (defBody s_Schema_text) (defScope s_Schema_text) .none kVtext dctext pmtext antext cdtext cttext), sltext⟩)
    (ctext : PySem.W.codeIn K cdtext "Schema.text" = true)
    (ktext : PySem.W.keepIn K (.ref ftext) = true)
    (nanon : PySem.W.notFirst K C (.type "NoneType") = true)
    (ktnon : PySem.W.kitOne K (.type "NoneType") (.ref C) = some false)
    (nabl : PySem.W.notFirst K C (.type "bool") = true)
    (ktbl : PySem.W.kitOne K (.type "bool") (.ref C) = some false)
    (naint : PySem.W.notFirst K C (.type "int") = true)
    (ktint : PySem.W.kitOne K (.type "int") (.ref C) = some false)
    (nastr : PySem.W.notFirst K C (.type "str") = true)
    (ktstr : PySem.W.kitOne K (.type "str") (.ref C) = some false)
    (nalst : PySem.W.notFirst K C (.type "list") = true)
    (ktlst : PySem.W.kitOne K (.type "list") (.ref C) = some false)
    (natup : PySem.W.notFirst K C (.type "tuple") = true)
    (kttup : PySem.W.kitOne K (.type "tuple") (.ref C) = some false)
    (nadct : PySem.W.notFirst K C (.type "dict") = true)
    (ktdct : PySem.W.kitOne K (.type "dict") (.ref C) = some false)
    (ktC : PySem.W.kitOne K (.ref C) (.ref C) = some true)
    (haC : PySem.W.findIn K (.ref C) "__class__" = some (some (.builtin "object.__class__")))
    (hnC : PySem.W.specialIn K (.builtin "object.__class__") "__get__" = some (some (.builtin "getset_descriptor.__get__")))
    (htC : PySem.W.takesIn K (.builtin "object.__class__") = some true)
    (hmC : PySem.W.mroIn K C (.type "object") = some true)
    (xL : K.lookup N = some (excClassObj nmN qN N NN bsN bmN true snN subN abN colN ddN m0N m1N m2N m3N m5N "ValueError.__new__"))
    (xb : PySem.HandSPX.refsVE bmN = true)
    (saN : PySem.W.findIn K (.ref N) "__setattr__" = some (some (.builtin "object.__setattr__")))
    (exN : PySem.W.subIn K (.ref N) (.type "BaseException") = some true)
    (tyN : PySem.W.typeIn K (.ref N) = some (.type "type"))
    (kN : PySem.W.keepIn K (.ref N) = true)
    (n1 : PySem.W.findIn K (.ref N) "part" = some none)
    (gaN : PySem.W.findIn K (.ref N) "__getattribute__" = some (some (.builtin "BaseException.__getattribute__")))
    (ggN : PySem.W.findIn K (.ref N) "__getattr__" = some none)
    (hdN : PySem.W.hasDictIn K N = true)
    (seN : PySem.W.exmOne K (.ref N) (.ref N) = some true)
    (aNI : PySem.W.findIn K (.ref N) "__init__" = some (some (.ref fNI)))
    (tNI : PySem.W.typeIn K (.ref fNI) = some (.type "function"))
    (lNI : K.lookup fNI = some ⟨ocNI, odNI, .func (PySem.W.fnOf "__init__" "InvalidSchema.__init__" (defArgs s_InvalidSchema___init__) (defBody s_InvalidSchema___init__) (defScope s_InvalidSchema___init__) .none kVNI dcNI pmNI anNI cdNI ctNI), slNI⟩)
    (cNI : PySem.W.codeIn K cdNI "InvalidSchema.__init__" = true)
    (kNI : PySem.W.keepIn K (.ref fNI) = true)
    {f1 : Addr} {od1 an1 : Option Addr} {sl1 : Array (Option Value)} {oc1 kV1 dc1 pm1 cd1 ct1 : Value}
    (a1 : PySem.W.nsIn K mainGlobals "is_name" = some (some (.ref f1))) (l1 : K.lookup f1 = some ⟨oc1, od1, .func (PySem.W.fnOf "is_name" "is_name" (defArgs s_is_name) (defBody s_is_name) (defScope s_is_name) .none kV1 dc1 pm1 an1 cd1 ct1), sl1⟩)
    (c1 : PySem.W.codeIn K cd1 "is_name" = true) (k1 : PySem.W.keepIn K (.ref f1) = true)
    {f2 : Addr} {od2 an2 : Option Addr} {sl2 : Array (Option Value)} {oc2 kV2 dc2 pm2 cd2 ct2 : Value}
    (a2 : PySem.W.nsIn K mainGlobals "is_tuple" = some (some (.ref f2))) (l2 : K.lookup f2 = some ⟨oc2, od2, .func (PySem.W.fnOf "is_tuple" "is_tuple" (defArgs s_is_tuple) (defBody s_is_tuple) (defScope s_is_tuple) .none kV2 dc2 pm2 an2 cd2 ct2), sl2⟩)
    (c2 : PySem.W.codeIn K cd2 "is_tuple" = true) (k2 : PySem.W.keepIn K (.ref f2) = true)
    {f3 : Addr} {od3 an3 : Option Addr} {sl3 : Array (Option Value)} {oc3 kV3 dc3 pm3 cd3 ct3 : Value}
    (a3 : PySem.W.nsIn K mainGlobals "is_ascending" = some (some (.ref f3))) (l3 : K.lookup f3 = some ⟨oc3, od3, .func (PySem.W.fnOf "is_ascending" "is_ascending" (defArgs s_is_ascending) (defBody s_is_ascending) (defScope s_is_ascending) .none kV3 dc3 pm3 an3 cd3 ct3), sl3⟩)
    (c3 : PySem.W.codeIn K cd3 "is_ascending" = true) (k3 : PySem.W.keepIn K (.ref f3) = true)
    {f4 : Addr} {od4 an4 : Option Addr} {sl4 : Array (Option Value)} {oc4 kV4 dc4 pm4 cd4 ct4 : Value}
    (a4 : PySem.W.nsIn K mainGlobals "_are_columns" = some (some (.ref f4))) (l4 : K.lookup f4 = some ⟨oc4, od4, .func (PySem.W.fnOf "_are_columns" "_are_columns" (defArgs s__are_columns) (defBody s__are_columns) (defScope s__are_columns) .none kV4 dc4 pm4 an4 cd4 ct4), sl4⟩)
    (c4 : PySem.W.codeIn K cd4 "_are_columns" = true) (k4 : PySem.W.keepIn K (.ref f4) = true)
    {f5 : Addr} {od5 an5 : Option Addr} {sl5 : Array (Option Value)} {oc5 kV5 dc5 pm5 cd5 ct5 : Value}
    (a5 : PySem.W.nsIn K mainGlobals "_are_some" = some (some (.ref f5))) (l5 : K.lookup f5 = some ⟨oc5, od5, .func (PySem.W.fnOf "_are_some" "_are_some" (defArgs s__are_some) (defBody s__are_some) (defScope s__are_some) .none kV5 dc5 pm5 an5 cd5 ct5), sl5⟩)
    (c5 : PySem.W.codeIn K cd5 "_are_some" = true) (k5 : PySem.W.keepIn K (.ref f5) = true)
    {f6 : Addr} {od6 an6 : Option Addr} {sl6 : Array (Option Value)} {oc6 kV6 dc6 pm6 cd6 ct6 : Value}
    (a6 : PySem.W.nsIn K mainGlobals "is_table" = some (some (.ref f6))) (l6 : K.lookup f6 = some ⟨oc6, od6, .func (PySem.W.fnOf "is_table" "is_table" (defArgs s_is_table) (defBody s_is_table) (defScope s_is_table) .none kV6 dc6 pm6 an6 cd6 ct6), sl6⟩)
    (c6 : PySem.W.codeIn K cd6 "is_table" = true) (k6 : PySem.W.keepIn K (.ref f6) = true)
    {f7 : Addr} {od7 an7 : Option Addr} {sl7 : Array (Option Value)} {oc7 kV7 dc7 pm7 cd7 ct7 : Value}
    (a7 : PySem.W.nsIn K mainGlobals "_table_text" = some (some (.ref f7))) (l7 : K.lookup f7 = some ⟨oc7, od7, .func (PySem.W.fnOf "_table_text" "_table_text" (defArgs s__table_text) (defBody s__table_text) (defScope s__table_text) .none kV7 dc7 pm7 an7 cd7 ct7), sl7⟩)
    (c7 : PySem.W.codeIn K cd7 "_table_text" = true) (k7 : PySem.W.keepIn K (.ref f7) = true)
    {f8 : Addr} {od8 an8 : Option Addr} {sl8 : Array (Option Value)} {oc8 kV8 dc8 pm8 cd8 ct8 : Value}
    (a8 : PySem.W.nsIn K mainGlobals "lines_of" = some (some (.ref f8))) (l8 : K.lookup f8 = some ⟨oc8, od8, .func (PySem.W.fnOf "lines_of" "lines_of" (defArgs s_lines_of) (defBody s_lines_of) (defScope s_lines_of) .none kV8 dc8 pm8 an8 cd8 ct8), sl8⟩)
    (c8 : PySem.W.codeIn K cd8 "lines_of" = true) (k8 : PySem.W.keepIn K (.ref f8) = true)
    {f9 : Addr} {od9 an9 : Option Addr} {sl9 : Array (Option Value)} {oc9 kV9 dc9 pm9 cd9 ct9 : Value}
    (a9 : PySem.W.nsIn K mainGlobals "_read_tables" = some (some (.ref f9))) (l9 : K.lookup f9 = some ⟨oc9, od9, .func (PySem.W.fnOf "_read_tables" "_read_tables" (defArgs s__read_tables) (defBody s__read_tables) (defScope s__read_tables) .none kV9 dc9 pm9 an9 cd9 ct9), sl9⟩)
    (c9 : PySem.W.codeIn K cd9 "_read_tables" = true) (k9 : PySem.W.keepIn K (.ref f9) = true)
    {f10 : Addr} {od10 an10 : Option Addr} {sl10 : Array (Option Value)} {oc10 kV10 dc10 pm10 cd10 ct10 : Value}
    (a10 : PySem.W.nsIn K mainGlobals "_read_table" = some (some (.ref f10))) (l10 : K.lookup f10 = some ⟨oc10, od10, .func (PySem.W.fnOf "_read_table" "_read_table" (defArgs s__read_table) (defBody s__read_table) (defScope s__read_table) .none kV10 dc10 pm10 an10 cd10 ct10), sl10⟩)
    (c10 : PySem.W.codeIn K cd10 "_read_table" = true) (k10 : PySem.W.keepIn K (.ref f10) = true)
    {f11 : Addr} {od11 an11 : Option Addr} {sl11 : Array (Option Value)} {oc11 kV11 dc11 pm11 cd11 ct11 : Value}
    (a11 : PySem.W.nsIn K mainGlobals "_read_marked" = some (some (.ref f11))) (l11 : K.lookup f11 = some ⟨oc11, od11, .func (PySem.W.fnOf "_read_marked" "_read_marked" (defArgs s__read_marked) (defBody s__read_marked) (defScope s__read_marked) .none kV11 dc11 pm11 an11 cd11 ct11), sl11⟩)
    (c11 : PySem.W.codeIn K cd11 "_read_marked" = true) (k11 : PySem.W.keepIn K (.ref f11) = true)
    {f12 : Addr} {od12 an12 : Option Addr} {sl12 : Array (Option Value)} {oc12 kV12 dc12 pm12 cd12 ct12 : Value}
    (a12 : PySem.W.nsIn K mainGlobals "_law_deck" = some (some (.ref f12))) (l12 : K.lookup f12 = some ⟨oc12, od12, .func (PySem.W.fnOf "_law_deck" "_law_deck" (defArgs s_deck) (defBody s_deck) (defScope s_deck) .none kV12 dc12 pm12 an12 cd12 ct12), sl12⟩)
    (c12 : PySem.W.codeIn K cd12 "_law_deck" = true) (k12 : PySem.W.keepIn K (.ref f12) = true)
    {f13 : Addr} {od13 an13 : Option Addr} {sl13 : Array (Option Value)} {oc13 kV13 dc13 pm13 cd13 ct13 : Value}
    (a13 : PySem.W.nsIn K mainGlobals "_law_draw" = some (some (.ref f13))) (l13 : K.lookup f13 = some ⟨oc13, od13, .func (PySem.W.fnOf "_law_draw" "_law_draw" (defArgs s_draw) (defBody s_draw) (defScope s_draw) .none kV13 dc13 pm13 an13 cd13 ct13), sl13⟩)
    (c13 : PySem.W.codeIn K cd13 "_law_draw" = true) (k13 : PySem.W.keepIn K (.ref f13) = true)
    {f14 : Addr} {od14 an14 : Option Addr} {sl14 : Array (Option Value)} {oc14 kV14 dc14 pm14 cd14 ct14 : Value}
    (a14 : PySem.W.nsIn K mainGlobals "_law_pick" = some (some (.ref f14))) (l14 : K.lookup f14 = some ⟨oc14, od14, .func (PySem.W.fnOf "_law_pick" "_law_pick" (defArgs s_pick) (defBody s_pick) (defScope s_pick) .none kV14 dc14 pm14 an14 cd14 ct14), sl14⟩)
    (c14 : PySem.W.codeIn K cd14 "_law_pick" = true) (k14 : PySem.W.keepIn K (.ref f14) = true)
    {f15 : Addr} {od15 an15 : Option Addr} {sl15 : Array (Option Value)} {oc15 kV15 dc15 pm15 cd15 ct15 : Value}
    (a15 : PySem.W.nsIn K mainGlobals "_law_names" = some (some (.ref f15))) (l15 : K.lookup f15 = some ⟨oc15, od15, .func (PySem.W.fnOf "_law_names" "_law_names" (defArgs s_names) (defBody s_names) (defScope s_names) .none kV15 dc15 pm15 an15 cd15 ct15), sl15⟩)
    (c15 : PySem.W.codeIn K cd15 "_law_names" = true) (k15 : PySem.W.keepIn K (.ref f15) = true)
    {f16 : Addr} {od16 an16 : Option Addr} {sl16 : Array (Option Value)} {oc16 kV16 dc16 pm16 cd16 ct16 : Value}
    (a16 : PySem.W.nsIn K mainGlobals "_law_table" = some (some (.ref f16))) (l16 : K.lookup f16 = some ⟨oc16, od16, .func (PySem.W.fnOf "_law_table" "_law_table" (defArgs s_table) (defBody s_table) (defScope s_table) .none kV16 dc16 pm16 an16 cd16 ct16), sl16⟩)
    (c16 : PySem.W.codeIn K cd16 "_law_table" = true) (k16 : PySem.W.keepIn K (.ref f16) = true)
    {f17 : Addr} {od17 an17 : Option Addr} {sl17 : Array (Option Value)} {oc17 kV17 dc17 pm17 cd17 ct17 : Value}
    (a17 : PySem.W.nsIn K mainGlobals "_law_tables" = some (some (.ref f17))) (l17 : K.lookup f17 = some ⟨oc17, od17, .func (PySem.W.fnOf "_law_tables" "_law_tables" (defArgs s_tables) (defBody s_tables) (defScope s_tables) .none kV17 dc17 pm17 an17 cd17 ct17), sl17⟩)
    (c17 : PySem.W.codeIn K cd17 "_law_tables" = true) (k17 : PySem.W.keepIn K (.ref f17) = true)
    {f18 : Addr} {od18 an18 : Option Addr} {sl18 : Array (Option Value)} {oc18 kV18 dc18 pm18 cd18 ct18 : Value}
    (a18 : PySem.W.nsIn K mainGlobals "_law_schema" = some (some (.ref f18))) (l18 : K.lookup f18 = some ⟨oc18, od18, .func (PySem.W.fnOf "_law_schema" "_law_schema" (defArgs s_schema) (defBody s_schema) (defScope s_schema) .none kV18 dc18 pm18 an18 cd18 ct18), sl18⟩)
    (c18 : PySem.W.codeIn K cd18 "_law_schema" = true) (k18 : PySem.W.keepIn K (.ref f18) = true)
    {f19 : Addr} {od19 an19 : Option Addr} {sl19 : Array (Option Value)} {oc19 kV19 dc19 pm19 cd19 ct19 : Value}
    (a19 : PySem.W.nsIn K mainGlobals "_law_line" = some (some (.ref f19))) (l19 : K.lookup f19 = some ⟨oc19, od19, .func (PySem.W.fnOf "_law_line" "_law_line" (defArgs s_line) (defBody s_line) (defScope s_line) .none kV19 dc19 pm19 an19 cd19 ct19), sl19⟩)
    (c19 : PySem.W.codeIn K cd19 "_law_line" = true) (k19 : PySem.W.keepIn K (.ref f19) = true)
    {f20 : Addr} {od20 an20 : Option Addr} {sl20 : Array (Option Value)} {oc20 kV20 dc20 pm20 cd20 ct20 : Value}
    (a20 : PySem.W.nsIn K mainGlobals "_law_whole" = some (some (.ref f20))) (l20 : K.lookup f20 = some ⟨oc20, od20, .func (PySem.W.fnOf "_law_whole" "_law_whole" (defArgs s_whole) (defBody s_whole) (defScope s_whole) .none kV20 dc20 pm20 an20 cd20 ct20), sl20⟩)
    (c20 : PySem.W.codeIn K cd20 "_law_whole" = true) (k20 : PySem.W.keepIn K (.ref f20) = true)
    {f21 : Addr} {od21 an21 : Option Addr} {sl21 : Array (Option Value)} {oc21 kV21 dc21 pm21 cd21 ct21 : Value}
    (a21 : PySem.W.nsIn K mainGlobals "_law_heard" = some (some (.ref f21))) (l21 : K.lookup f21 = some ⟨oc21, od21, .func (PySem.W.fnOf "_law_heard" "_law_heard" (defArgs s_heard) (defBody s_heard) (defScope s_heard) .none kV21 dc21 pm21 an21 cd21 ct21), sl21⟩)
    (c21 : PySem.W.codeIn K cd21 "_law_heard" = true) (k21 : PySem.W.keepIn K (.ref f21) = true)
    {f22 : Addr} {od22 an22 : Option Addr} {sl22 : Array (Option Value)} {oc22 kV22 dc22 pm22 cd22 ct22 : Value}
    (a22 : PySem.W.nsIn K mainGlobals "_law_wrong" = some (some (.ref f22))) (l22 : K.lookup f22 = some ⟨oc22, od22, .func (PySem.W.fnOf "_law_wrong" "_law_wrong" (defArgs s_wrong) (defBody s_wrong) (defScope s_wrong) .none kV22 dc22 pm22 an22 cd22 ct22), sl22⟩)
    (c22 : PySem.W.codeIn K cd22 "_law_wrong" = true) (k22 : PySem.W.keepIn K (.ref f22) = true)
    {f23 : Addr} {od23 an23 : Option Addr} {sl23 : Array (Option Value)} {oc23 kV23 dc23 pm23 cd23 ct23 : Value}
    (a23 : PySem.W.nsIn K mainGlobals "law" = some (some (.ref f23))) (l23 : K.lookup f23 = some ⟨oc23, od23, .func (PySem.W.fnOf "law" "law" (defArgs s_law) (defBody s_law) (defScope s_law) .none kV23 dc23 pm23 an23 cd23 ct23), sl23⟩)
    (c23 : PySem.W.codeIn K cd23 "law" = true) (k23 : PySem.W.keepIn K (.ref f23) = true)
    (z_isinstance : PySem.W.nsIn K mainGlobals "isinstance" = some none)
    (z_str : PySem.W.nsIn K mainGlobals "str" = some none)
    (z_tuple : PySem.W.nsIn K mainGlobals "tuple" = some none)
    (z_len : PySem.W.nsIn K mainGlobals "len" = some none)
    (z_all : PySem.W.nsIn K mainGlobals "all" = some none)
    (z_zip : PySem.W.nsIn K mainGlobals "zip" = some none)
    (z_set : PySem.W.nsIn K mainGlobals "set" = some none)
    (z_enumerate : PySem.W.nsIn K mainGlobals "enumerate" = some none)
    (z_sorted : PySem.W.nsIn K mainGlobals "sorted" = some none)
    (z_list : PySem.W.nsIn K mainGlobals "list" = some none)
    (z_range : PySem.W.nsIn K mainGlobals "range" = some none)
    (z_repr : PySem.W.nsIn K mainGlobals "repr" = some none)
    (z_int : PySem.W.nsIn K mainGlobals "int" = some none)
    (z_min : PySem.W.nsIn K mainGlobals "min" = some none) :
    ∃ fd : FuncData, (∀ (s : Shared) (v : Value), BindsTo s fd ⟨[v], []⟩ [("_law_script", v)]) ∧
      ∀ g0 : Heap, K.In g0 → g0.Ns mainGlobals mg → GOk l.prog w K mg g0 CX0 8 fa fd ["_law_script"] (spLaw K) := by
  have e := hfa.symm.trans (PySem.W.mg_of X G a23)
  cases e
  have vL := PySem.W.mg_of X G vL
  have vM := PySem.W.mg_of X G vM
  have gC := PySem.W.mg_of X G aC
  have F1 := fun_mk (st := s_is_name) l1 c1 k1
  have b1 := F1.binds (ps := ["thing"]) fun _ _ _ _ _ _ us hl => match us, hl with | [_], _ => rfl
  have F2 := fun_mk (st := s_is_tuple) l2 c2 k2
  have b2 := F2.binds (ps := ["thing", "size"]) fun _ _ _ _ _ _ us hl => match us, hl with | [_, _], _ => rfl
  have F3 := fun_mk (st := s_is_ascending) l3 c3 k3
  have b3 := F3.binds (ps := ["things"]) fun _ _ _ _ _ _ us hl => match us, hl with | [_], _ => rfl
  have F4 := fun_mk (st := s__are_columns) l4 c4 k4
  have b4 := F4.binds (ps := ["thing"]) fun _ _ _ _ _ _ us hl => match us, hl with | [_], _ => rfl
  have F5 := fun_mk (st := s__are_some) l5 c5 k5
  have b5 := F5.binds (ps := ["thing", "columns"]) fun _ _ _ _ _ _ us hl => match us, hl with | [_, _], _ => rfl
  have F6 := fun_mk (st := s_is_table) l6 c6 k6
  have b6 := F6.binds (ps := ["thing"]) fun _ _ _ _ _ _ us hl => match us, hl with | [_], _ => rfl
  have F7 := fun_mk (st := s__table_text) l7 c7 k7
  have b7 := F7.binds (ps := ["table"]) fun _ _ _ _ _ _ us hl => match us, hl with | [_], _ => rfl
  have F8 := fun_mk (st := s_lines_of) l8 c8 k8
  have b8 := F8.binds (ps := ["text"]) fun _ _ _ _ _ _ us hl => match us, hl with | [_], _ => rfl
  have F9 := fun_mk (st := s__read_tables) l9 c9 k9
  have b9 := F9.binds (ps := ["lines"]) fun _ _ _ _ _ _ us hl => match us, hl with | [_], _ => rfl
  have F10 := fun_mk (st := s__read_table) l10 c10 k10
  have b10 := F10.binds (ps := ["line"]) fun _ _ _ _ _ _ us hl => match us, hl with | [_], _ => rfl
  have F11 := fun_mk (st := s__read_marked) l11 c11 k11
  have b11 := F11.binds (ps := ["text"]) fun _ _ _ _ _ _ us hl => match us, hl with | [_], _ => rfl
  have F12 := fun_mk (st := s_deck) l12 c12 k12
  have b12 := F12.binds (ps := ["_law_script"]) fun _ _ _ _ _ _ us hl => match us, hl with | [_], _ => rfl
  have F13 := fun_mk (st := s_draw) l13 c13 k13
  have b13 := F13.binds (ps := ["_law_deck_here", "_law_many"]) fun _ _ _ _ _ _ us hl => match us, hl with | [_, _], _ => rfl
  have F14 := fun_mk (st := s_pick) l14 c14 k14
  have b14 := F14.binds (ps := ["_law_deck_here", "_law_some"]) fun _ _ _ _ _ _ us hl => match us, hl with | [_, _], _ => rfl
  have F15 := fun_mk (st := s_names) l15 c15 k15
  have b15 := F15.binds (ps := ["_law_deck_here", "_law_many"]) fun _ _ _ _ _ _ us hl => match us, hl with | [_, _], _ => rfl
  have F16 := fun_mk (st := s_table) l16 c16 k16
  have b16 := F16.binds (ps := ["_law_deck_here", "_law_name"]) fun _ _ _ _ _ _ us hl => match us, hl with | [_, _], _ => rfl
  have F17 := fun_mk (st := s_tables) l17 c17 k17
  have b17 := F17.binds (ps := ["_law_deck_here", "_law_many"]) fun _ _ _ _ _ _ us hl => match us, hl with | [_, _], _ => rfl
  have F18 := fun_mk (st := s_schema) l18 c18 k18
  have b18 := F18.binds (ps := ["_law_some"]) fun _ _ _ _ _ _ us hl => match us, hl with | [_], _ => rfl
  have F19 := fun_mk (st := s_line) l19 c19 k19
  have b19 := F19.binds (ps := ["_law_one"]) fun _ _ _ _ _ _ us hl => match us, hl with | [_], _ => rfl
  have F20 := fun_mk (st := s_whole) l20 c20 k20
  have b20 := F20.binds (ps := ["_law_some"]) fun _ _ _ _ _ _ us hl => match us, hl with | [_], _ => rfl
  have F21 := fun_mk (st := s_heard) l21 c21 k21
  have b21 := F21.binds (ps := ["_law_whole_here"]) fun _ _ _ _ _ _ us hl => match us, hl with | [_], _ => rfl
  have F22 := fun_mk (st := s_wrong) l22 c22 k22
  have b22 := F22.binds (ps := ["_law_deck_here", "_law_one"]) fun _ _ _ _ _ _ us hl => match us, hl with | [_, _], _ => rfl
  have FI := fun_mk (st := s_Schema___init__) lI cI kI
  have Flen := fun_mk (st := s_Schema___len__) llen clen klen
  have Feq := fun_mk (st := s_Schema___eq__) leq ceq keq
  have Ftables := fun_mk (st := s_Schema_tables) ltables ctables ktables
  have Ftext := fun_mk (st := s_Schema_text) ltext ctext ktext
  have FNI := fun_mk (st := s_InvalidSchema___init__) lNI cNI kNI
  have FR := fun_mk (st := s_Schema_read) lR cR kR
  have blen := Flen.binds (ps := ["self"]) fun _ _ _ _ _ _ us hl => match us, hl with | [_], _ => rfl
  have beq := Feq.binds (ps := ["self", "other"]) fun _ _ _ _ _ _ us hl => match us, hl with | [_, _], _ => rfl
  have btables := Ftables.binds (ps := ["self"]) fun _ _ _ _ _ _ us hl => match us, hl with | [_], _ => rfl
  have btext := Ftext.binds (ps := ["self"]) fun _ _ _ _ _ _ us hl => match us, hl with | [_], _ => rfl
  have bNI := FNI.binds (ps := ["self", "part"]) fun _ _ _ _ _ _ us hl => match us, hl with | [_, _], _ => rfl
  have bR := FR.binds (ps := ["cls", "text"]) fun _ _ _ _ _ _ us hl => match us, hl with | [_, _], _ => rfl
  have y_isinstance := PySem.W.mg_none_of X G z_isinstance
  have y_str := PySem.W.mg_none_of X G z_str
  have y_tuple := PySem.W.mg_none_of X G z_tuple
  have y_len := PySem.W.mg_none_of X G z_len
  have y_all := PySem.W.mg_none_of X G z_all
  have y_zip := PySem.W.mg_none_of X G z_zip
  have y_set := PySem.W.mg_none_of X G z_set
  have y_enumerate := PySem.W.mg_none_of X G z_enumerate
  have y_sorted := PySem.W.mg_none_of X G z_sorted
  have y_list := PySem.W.mg_none_of X G z_list
  have y_range := PySem.W.mg_none_of X G z_range
  have y_repr := PySem.W.mg_none_of X G z_repr
  have y_int := PySem.W.mg_none_of X G z_int
  have y_min := PySem.W.mg_none_of X G z_min
  refine ⟨PySem.W.fnOf "law" "law" (defArgs s_law) (defBody s_law) (defScope s_law) .none kV23 dc23 pm23 an23 cd23 ct23, fun s v => .of_eq rfl, fun g0 _ _ => ?_⟩
  have tx : Txt K C := ⟨⟨pg, hd, po, sa⟩, nN, nT⟩
  have nt : BadTxt K N := ⟨⟨⟨_, _, _, _, _, _, _, _, _, _, _, _, _, _, _, xL, xb⟩, saN, exN, tyN, kN⟩, n1⟩
  have cz : ClsT K C := ⟨haC, hnC, htC, hmC, ktC, ktnon, ktbl, ktint, ktstr, ktlst, kttup, ktdct⟩
  have na : NotAhead K C := ⟨nanon, nabl, naint, nastr, nalst, natup, nadct⟩
  have C1 : CalF l.prog w K mg g0 "is_name" 1 ["thing"] (spName) := ⟨_, _, ok_name F1 y_isinstance y_str y_len y_all vL, b1, PySem.W.mg_of X G a1, k1⟩
  have C2 : CalF l.prog w K mg g0 "is_tuple" 1 ["thing", "size"] (spTuple) := ⟨_, _, ok_tuple F2 y_isinstance y_tuple y_len, b2, PySem.W.mg_of X G a2, k2⟩
  have C3 : CalF l.prog w K mg g0 "is_ascending" 1 ["things"] (spAsc) := ⟨_, _, ok_asc F3 y_zip y_all, b3, PySem.W.mg_of X G a3, k3⟩
  have C4 : CalF l.prog w K mg g0 "_are_columns" 2 ["thing"] (spCols) := ⟨_, _, ok_cols F4 C1 y_isinstance y_tuple y_len y_all y_set vM, b4, PySem.W.mg_of X G a4, k4⟩
  have C5 : CalF l.prog w K mg g0 "_are_some" 2 ["thing", "columns"] (spSome) := ⟨_, _, ok_some F5 C3 y_isinstance y_tuple y_all, b5, PySem.W.mg_of X G a5, k5⟩
  have C6 : CalF l.prog w K mg g0 "is_table" 3 ["thing"] (spTable) := ⟨_, _, ok_table F6 C1 C2 C4 C5, b6, PySem.W.mg_of X G a6, k6⟩
  have C7 : CalF l.prog w K mg g0 "_table_text" 1 ["table"] (spTT) := ⟨_, _, ok_tt F7, b7, PySem.W.mg_of X G a7, k7⟩
  have C8 : CalF l.prog w K mg g0 "lines_of" 1 ["text"] (spLines) := ⟨_, _, ok_lines F8 y_isinstance y_str, b8, PySem.W.mg_of X G a8, k8⟩
  have C11 : CalF l.prog w K mg g0 "_read_marked" 1 ["text"] (spMarked) := ⟨_, _, ok_marked F11 y_tuple y_len, b11, PySem.W.mg_of X G a11, k11⟩
  have C10 : CalF l.prog w K mg g0 "_read_table" 2 ["line"] (spReadT) := ⟨_, _, ok_readT F10 C1 C11 y_tuple y_all, b10, PySem.W.mg_of X G a10, k10⟩
  have C9 : CalF l.prog w K mg g0 "_read_tables" 3 ["lines"] (spReadTs) := ⟨_, _, ok_readTs F9 C10 y_enumerate, b9, PySem.W.mg_of X G a9, k9⟩
  have C3B : CalF l.prog w K mg g0 "is_ascending" 1 ["things"] (spAscB) := ⟨_, _, ok_ascB F3 y_zip y_all, b3, PySem.W.mg_of X G a3, k3⟩
  have C4B : CalF l.prog w K mg g0 "_are_columns" 2 ["thing"] (spColsB) := ⟨_, _, ok_colsB F4 C1 y_isinstance y_tuple y_len y_all y_set vM, b4, PySem.W.mg_of X G a4, k4⟩
  have C5B : CalF l.prog w K mg g0 "_are_some" 2 ["thing", "columns"] (spSomeB) := ⟨_, _, ok_someB F5 C3B y_isinstance y_tuple y_all, b5, PySem.W.mg_of X G a5, k5⟩
  have C6B : CalF l.prog w K mg g0 "is_table" 3 ["thing"] (spTableB) := ⟨_, _, ok_tableB F6 C1 C2 C4B C5B, b6, PySem.W.mg_of X G a6, k6⟩
  have FlenR : FnR l.prog w K mg g0 CX0 1 flen (spLen C) := raw0 (ok_len Flen tx y_len) blen
  have FeqR : FnR l.prog w K mg g0 CX0 1 feq (spEq C) := raw0 (ok_eq Feq tx cz y_isinstance gC) beq
  have S_mk : Mk K C fI := ⟨mki, aI, iI, kC⟩
  have hb : ∀ (kV doc pm : Value) (an : Option Addr) (cdv ct : Value) (us rest : List Value), us.length = 1 →
      bindArgs (PySem.W.fnOf "__init__" "Schema.__init__" (defArgs s_Schema___init__) (defBody s_Schema___init__) (defScope s_Schema___init__) .none kV doc pm an cdv ct) ⟨us ++ rest, []⟩ = (newTuple rest >>= fun t => pure ((["self"] : List Str).zip us ++ [(("tables" : Str), t)])) := fun kV doc pm an cdv ct us rest hl => StX.bind_star1 (p1 := "self") (pv := "tables") (B := fun vs => bindArgs (PySem.W.fnOf "__init__" "Schema.__init__" (defArgs s_Schema___init__) (defBody s_Schema___init__) (defScope s_Schema___init__) .none kV doc pm an cdv ct) ⟨vs, []⟩) (fun _ => rfl) (fun _ _ _ => rfl) us rest hl
  have S_init : FnR l.prog w K mg g0 CX0 4 fI (spMk C) := ok_init FI tx C6 y_enumerate y_sorted y_tuple hb
  have BB : Bads l.prog w K mg g0 N := ⟨nt, PySem.W.mg_of X G aN, ⟨_, _, aNI, tNI, ok_bad FNI nt, bNI⟩⟩
  have S_initB : FnR l.prog w K mg g0 (L2.CX l.prog w) 4 fI (spMkB C N) := ok_initB FI tx BB C6B y_enumerate y_sorted y_tuple hb
  have kbR : KBn K _ ["cls", "text"] 1 ["text"] gK gKV := kb_of FR (fun rv rz => rv.append rz) fun _ _ _ _ _ _ us ws h1 h2 => match us, h1, ws, h2 with | [_], _, [_], _ => rfl
  have R : RefB l.prog w K mg g0 C N := ⟨gC, PySem.W.mg_of X G aN, seN, ⟨gaN, ggN, exN, hdN⟩, n1, tx, ⟨_, _, _, ⟨ptables, gtables, ttables, ⟨_, rtables⟩⟩, ok_tables Ftables tx, btables⟩, ⟨_, _, _, _, ⟨rdC, gaC⟩, ⟨atR, ⟨_, rcR⟩, fiR⟩, ok_read FR S_mk S_initB C9 C8, bR, kbR⟩⟩
  have C12 : Cal l.prog w K mg g0 "_law_deck" 1 ["_law_script"] (spDeck K) := ⟨_, _, ok_deck F12 y_list, b12, PySem.W.mg_of X G a12, k12⟩
  have C13 : Cal l.prog w K mg g0 "_law_draw" 1 ["_law_deck_here", "_law_many"] (spDraw) := ⟨_, _, ok_draw F13, b13, PySem.W.mg_of X G a13, k13⟩
  have C14 : Cal l.prog w K mg g0 "_law_pick" 2 ["_law_deck_here", "_law_some"] (spPick) := ⟨_, _, ok_pick F14 y_len C13, b14, PySem.W.mg_of X G a14, k14⟩
  have C15 : Cal l.prog w K mg g0 "_law_names" 2 ["_law_deck_here", "_law_many"] (spNames) := ⟨_, _, ok_names F15 y_range y_len C13, b15, PySem.W.mg_of X G a15, k15⟩
  have C16 : Cal l.prog w K mg g0 "_law_table" 3 ["_law_deck_here", "_law_name"] (spTableL) := ⟨_, _, ok_tableL F16 y_range y_tuple y_sorted C13 C15, b16, PySem.W.mg_of X G a16, k16⟩
  have C17 : Cal l.prog w K mg g0 "_law_tables" 4 ["_law_deck_here", "_law_many"] (spTablesL) := ⟨_, _, ok_tablesL F17 C15 C16, b17, PySem.W.mg_of X G a17, k17⟩
  have C18 : Cal l.prog w K mg g0 "_law_schema" 6 ["_law_some"] (spSchemaL C) := ⟨_, _, ok_schemaL F18 y_len gC S_mk S_init, b18, PySem.W.mg_of X G a18, k18⟩
  have C19 : Cal l.prog w K mg g0 "_law_line" 1 ["_law_one"] (spLine) := ⟨_, _, ok_line F19, b19, PySem.W.mg_of X G a19, k19⟩
  have C20 : Cal l.prog w K mg g0 "_law_whole" 2 ["_law_some"] (spWhole) := ⟨_, _, ok_whole F20 C19, b20, PySem.W.mg_of X G a20, k20⟩
  have C21 : Cal l.prog w K mg g0 "_law_heard" 7 ["_law_whole_here"] (spHeard) := ⟨_, _, ok_heard F21 R, b21, PySem.W.mg_of X G a21, k21⟩
  have C22 : Cal l.prog w K mg g0 "_law_wrong" 3 ["_law_deck_here", "_law_one"] (spWrong) := ⟨_, _, ok_wrong F22 y_list y_tuple y_sorted C14, b22, PySem.W.mg_of X G a22, k22⟩
  have LL : Law l.prog w K mg g0 C N := ⟨R, ⟨_, aeq, ieq, na, FeqR⟩, ⟨_, _, _, ⟨ptext, gtext, ttext, ⟨_, rtext⟩⟩, ok_text Ftext tx C7, btext⟩, ⟨_, alen, beq_iff_eq.mp ilen, FlenR⟩⟩
  exact ok_law (fun_mk (st := s_law) l23 c23 k23) LL y_range y_tuple y_sorted y_len y_repr y_int y_min C12 C13 C17 C18 C20 C21 C22
end K03

open PySem PySem.W PyProof.Rows in
set_option maxRecDepth 100000 in
set_option maxHeartbeats 0 in
theorem PySem.Challenge.cw_ownwake_k03_texts_of_schemas_holds : PySem.Challenge.rw_ownwake_k03_texts_of_schemas.Holds := by
  w_on; o_law; k_head; (case hw => w_witness2)
  k_fill
  refine Own.walkG (l := PySem.Challenge.rw_ownwake_k03_texts_of_schemas) (n := 63) (k := 8) (x := "_law_script") (sp := fun w => K03.spLaw _) rfl (by decide) rfl ⟨rfl, by decide, by decide⟩ (fun w h Y => PySem.W.kIn_of Y) ?F
    (fun _ _ a ns hl hO hS => ⟨a, ns, rfl, hS, hl, hO, fun _ => rfl⟩)
  case F =>
    intro w mg fa h KX G hmg
    refine' K03.all_mk KX G hmg ?aC ?aN ?vL ?vM ?pg ?hd ?po ?sa ?nN ?nT ?mki ?kC ?aI ?iI ?lI ?cI ?kI ?alen ?ilen ?llen ?clen ?klen ?aeq ?ieq ?leq ?ceq ?keq ?rdC ?gaC ?atR ?rcR ?fiR ?lR ?cR ?kR ?ptables ?gtables ?ttables ?rtables ?ltables ?ctables ?ktables ?ptext ?gtext ?ttext ?rtext ?ltext ?ctext ?ktext ?nanon ?ktnon ?nabl ?ktbl ?naint ?ktint ?nastr ?ktstr ?nalst ?ktlst ?natup ?kttup ?nadct ?ktdct ?ktC ?haC ?hnC ?htC ?hmC ?xL ?xb ?saN ?exN ?tyN ?kN ?n1 ?gaN ?ggN ?hdN ?seN ?aNI ?tNI ?lNI ?cNI ?kNI ?a1 ?l1 ?c1 ?k1 ?a2 ?l2 ?c2 ?k2 ?a3 ?l3 ?c3 ?k3 ?a4 ?l4 ?c4 ?k4 ?a5 ?l5 ?c5 ?k5 ?a6 ?l6 ?c6 ?k6 ?a7 ?l7 ?c7 ?k7 ?a8 ?l8 ?c8 ?k8 ?a9 ?l9 ?c9 ?k9 ?a10 ?l10 ?c10 ?k10 ?a11 ?l11 ?c11 ?k11 ?a12 ?l12 ?c12 ?k12 ?a13 ?l13 ?c13 ?k13 ?a14 ?l14 ?c14 ?k14 ?a15 ?l15 ?c15 ?k15 ?a16 ?l16 ?c16 ?k16 ?a17 ?l17 ?c17 ?k17 ?a18 ?l18 ?c18 ?k18 ?a19 ?l19 ?c19 ?k19 ?a20 ?l20 ?c20 ?k20 ?a21 ?l21 ?c21 ?k21 ?a22 ?l22 ?c22 ?k22 ?a23 ?l23 ?c23 ?k23 ?z_isinstance ?z_str ?z_tuple ?z_len ?z_all ?z_zip ?z_set ?z_enumerate ?z_sorted ?z_list ?z_range ?z_repr ?z_int ?z_min
    (case a1 => k_is)
    (case l1 => k_is)
    (case c1 => k_is)
    (case k1 => k_is)
    (case a2 => k_is)
    (case l2 => k_is)
    (case c2 => k_is)
    (case k2 => k_is)
    (case a3 => k_is)
    (case l3 => k_is)
    (case c3 => k_is)
    (case k3 => k_is)
    (case a4 => k_is)
    (case l4 => k_is)
    (case c4 => k_is)
    (case k4 => k_is)
    (case a5 => k_is)
    (case l5 => k_is)
    (case c5 => k_is)
    (case k5 => k_is)
    (case a6 => k_is)
    (case l6 => k_is)
    (case c6 => k_is)
    (case k6 => k_is)
    (case a7 => k_is)
    (case l7 => k_is)
    (case c7 => k_is)
    (case k7 => k_is)
    (case a8 => k_is)
    (case l8 => k_is)
    (case c8 => k_is)
    (case k8 => k_is)
    (case a9 => k_is)
    (case l9 => k_is)
    (case c9 => k_is)
    (case k9 => k_is)
    (case a10 => k_is)
    (case l10 => k_is)
    (case c10 => k_is)
    (case k10 => k_is)
    (case a11 => k_is)
    (case l11 => k_is)
    (case c11 => k_is)
    (case k11 => k_is)
    (case a12 => k_is)
    (case l12 => k_is)
    (case c12 => k_is)
    (case k12 => k_is)
    (case a13 => k_is)
    (case l13 => k_is)
    (case c13 => k_is)
    (case k13 => k_is)
    (case a14 => k_is)
    (case l14 => k_is)
    (case c14 => k_is)
    (case k14 => k_is)
    (case a15 => k_is)
    (case l15 => k_is)
    (case c15 => k_is)
    (case k15 => k_is)
    (case a16 => k_is)
    (case l16 => k_is)
    (case c16 => k_is)
    (case k16 => k_is)
    (case a17 => k_is)
    (case l17 => k_is)
    (case c17 => k_is)
    (case k17 => k_is)
    (case a18 => k_is)
    (case l18 => k_is)
    (case c18 => k_is)
    (case k18 => k_is)
    (case a19 => k_is)
    (case l19 => k_is)
    (case c19 => k_is)
    (case k19 => k_is)
    (case a20 => k_is)
    (case l20 => k_is)
    (case c20 => k_is)
    (case k20 => k_is)
    (case a21 => k_is)
    (case l21 => k_is)
    (case c21 => k_is)
    (case k21 => k_is)
    (case a22 => k_is)
    (case l22 => k_is)
    (case c22 => k_is)
    (case k22 => k_is)
    (case a23 => k_is)
    (case l23 => k_is)
    (case c23 => k_is)
    (case k23 => k_is)
    (case z_isinstance => k_is)
    (case z_str => k_is)
    (case z_tuple => k_is)
    (case z_len => k_is)
    (case z_all => k_is)
    (case z_zip => k_is)
    (case z_set => k_is)
    (case z_enumerate => k_is)
    (case z_sorted => k_is)
    (case z_list => k_is)
    (case z_range => k_is)
    (case z_repr => k_is)
    (case z_int => k_is)
    (case z_min => k_is)
    (case aC => k_is)
    (case aN => k_is)
    (case vL => k_is)
    (case vM => k_is)
    (case pg => k_is)
    (case hd => k_is)
    (case po => k_is)
    (case sa => k_is)
    (case nN => k_is)
    (case nT => k_is)
    (case mki => k_is)
    (case kC => k_is)
    (case aI => k_is)
    (case iI => k_is)
    (case lI => k_is)
    (case cI => k_is)
    (case kI => k_is)
    (case alen => k_is)
    (case ilen => k_is)
    (case llen => k_is)
    (case clen => k_is)
    (case klen => k_is)
    (case aeq => k_is)
    (case ieq => k_is)
    (case leq => k_is)
    (case ceq => k_is)
    (case keq => k_is)
    (case rdC => first | rfl | k_is)
    (case gaC => k_is)
    (case atR => k_is)
    (case rcR => k_is)
    (case fiR => first | rfl | k_is)
    (case lR => k_is)
    (case cR => k_is)
    (case kR => k_is)
    (case ptables => k_is)
    (case gtables => k_is)
    (case ttables => k_is)
    (case rtables => k_is)
    (case ltables => k_is)
    (case ctables => k_is)
    (case ktables => first | rfl | k_is)
    (case ptext => k_is)
    (case gtext => k_is)
    (case ttext => k_is)
    (case rtext => k_is)
    (case ltext => k_is)
    (case ctext => k_is)
    (case ktext => first | rfl | k_is)
    (case nanon => first | rfl | k_is)
    (case ktnon => first | rfl | k_is)
    (case nabl => first | rfl | k_is)
    (case ktbl => first | rfl | k_is)
    (case naint => first | rfl | k_is)
    (case ktint => first | rfl | k_is)
    (case nastr => first | rfl | k_is)
    (case ktstr => first | rfl | k_is)
    (case nalst => first | rfl | k_is)
    (case ktlst => first | rfl | k_is)
    (case natup => first | rfl | k_is)
    (case kttup => first | rfl | k_is)
    (case nadct => first | rfl | k_is)
    (case ktdct => first | rfl | k_is)
    (case ktC => first | rfl | k_is)
    (case haC => k_is)
    (case hnC => k_is)
    (case htC => k_is)
    (case hmC => k_is)
    (case xL => k_is)
    (case xb => first | decide +kernel | rfl)
    (case saN => k_is)
    (case exN => k_is)
    (case tyN => k_is)
    (case kN => k_is)
    (case n1 => k_is)
    (case gaN => k_is)
    (case ggN => k_is)
    (case hdN => k_is)
    (case seN => first | rfl | k_is)
    (case aNI => k_is)
    (case tNI => k_is)
    (case lNI => k_is)
    (case cNI => k_is)
    (case kNI => k_is)
