import PyProof.Rows.All
import Wide.All
import OpenK.AllK
import Wide.FinOn
import HandS.ForMost
import HandS.Walk
import HandS.Zip
import KE.GoesEnum
import HandS.Wide
import HandS.IsInst
import HandS.Codes
import HandS.TupAny
import HandS.TupMul
import HandS.Conv
import HandS.Flow
import PyProof.TypeEq
import PyProof.InstEq
import PyProof.TypeOfCall
import HandS.Star
import KE.KDictZip
import KE.KItemsList
import HandS.Lambda
import HandS.Nested
import KE.SortKeyHeap
import HandS.Dict
import HandS.List
import KE.KDictKeyed
import HandS.Call
import PyProof.StrBlock2
import HandS.ForExc
import HandS.FStr
import HandS.Small
import HandS.ExcIs
import HandS.Property
import HandS.Deep
import HandS.Style
import HandS.EndTab
import PySem.Challenge.RW_loopwords_k03_runs
set_option Elab.async false
set_option linter.all false
set_option maxRecDepth 100000
set_option maxHeartbeats 4000000
/-! zip of a list or a tuple with a list or a tuple; enumerate of a list or a tuple. -/
namespace LW
open PySem PySem.Spec PyProof.Rows L2

/-- true: a tuple; false: a list -/
def Sd (K : PySem.W.Frag) : Bool → Hp → Addr → List V → Prop
  | true, H, a, xs => SqT K H a xs
  | false, H, a, xs => SqL K H a xs
def SdIt : Bool → Heap → Addr → Addr → Nat → Prop
  | true, h, it, a, i => h.IsTupleIter it a i
  | false, h, it, a, i => h.IsListIter it a i
def SdAt : Bool → Heap → Addr → Array Value → Prop
  | true, h, a, its => h.IsTuple a its
  | false, h, a, its => h.IsList a its
def sdObj : Bool → Addr → Obj
  | true, a => { cls := .type "tuple_iterator", data := .fields #[.ref a, .int 0 0] }
  | false, a => { cls := .type "list_iterator", data := .fields #[.ref a, .int 0 0] }

theorem sd_begins (b : Bool) (a : Addr) (its : Array Value) : Begins (.ref a) (sdObj b a) (fun h => SdAt b h a its) := by
  cases b with
  | true => exact begins_tuple a its
  | false => exact begins_list a its
theorem sd_draws {prog : Program} {w : World} {A : Around} (b : Bool) (hh : A.handled = none) (it a : Addr) (hne : a ≠ it) (its : Array Value) :
    Draws prog w A it [it, a] its.size (fun i v => its[i]? = some v) (fun i h => SdIt b h it a i ∧ SdAt b h a its) := by
  cases b with
  | true => exact Draws.tuple hh it a hne its
  | false => exact Draws.list hh it a hne its
theorem sd_it0 {b : Bool} {h : Heap} {it a : Addr} (e : h.get? it = some (sdObj b a)) : SdIt b h it a 0 := by
  cases b with
  | true => exact ⟨_, e, rfl, rfl⟩
  | false => exact ⟨_, e, rfl, rfl⟩
theorem sd_live {b : Bool} {h : Heap} {it a : Addr} {i : Nat} (s : SdIt b h it a i) : ∃ o, h.get? it = some o ∧ ∀ v, o.data ≠ .cell v := by
  cases b with
  | true =>
    obtain ⟨o, e, _, d⟩ := s
    exact ⟨o, e, fun v z => by rw [d] at z; cases z⟩
  | false =>
    obtain ⟨o, e, _, d⟩ := s
    exact ⟨o, e, fun v z => by rw [d] at z; cases z⟩
theorem sd_over {b : Bool} {h h' : Heap} {it a : Addr} {i : Nat} (s : SdIt b h it a i) (k : ∀ o, h.get? it = some o → h'.get? it = some o) : SdIt b h' it a i := by
  cases b with
  | true => exact Heap.IsTupleIter.at s k
  | false => exact Heap.IsListIter.at s k
theorem sd_data {X : Cx} {pins : List (Addr × Obj)} {σ : L2.St} {H : Hp} {s : Shared} {b : Bool} {a : Addr} {xs : List V} (I : Inv X pins σ H s) (q : Sd X.K b H a xs) :
    ∃ its : List Value, Vals xs its ∧ SdAt b s.heap a its.toArray ∧ a < s.heap.objs.size := by
  cases b with
  | true =>
    obtain ⟨its, rv, p, _⟩ := I.tuple q
    obtain ⟨o, ho, _⟩ := id p
    exact ⟨its, rv, p, Heap.lt_size ho⟩
  | false =>
    obtain ⟨its, rv, p, _⟩ := I.list q
    exact ⟨its, rv, p.isList, p.lt⟩
theorem sd_inj {X : Cx} {pins : List (Addr × Obj)} {σ : L2.St} {H : Hp} {s : Shared} {b : Bool} {a : Addr} {xs ys : List V} (I : Inv X pins σ H s) (q : Sd X.K b H a xs) (q' : Sd X.K b H a ys) : xs = ys := by
  cases b with
  | true => exact I.tuple_inj q q'
  | false => exact I.list_inj q q'

/-! ### zip -/
def ItZ (K : PySem.W.Frag) (b1 b2 : Bool) (a c : Addr) : It :=
  ⟨fun i H => ∃ (xs ys : List V) (x y : V), Sd K b1 H a xs ∧ Sd K b2 H c ys ∧ xs[i]? = some x ∧ ys[i]? = some y,
    fun i H v H' => ∃ T x y, v = .ref T ∧ H T = none ∧ H' = upd H T (.tup [x, y]) ∧ (∀ xs, Sd K b1 H a xs → xs[i]? = some x) ∧ ∀ ys, Sd K b2 H c ys → ys[i]? = some y,
    fun i H => ∃ xs ys : List V, Sd K b1 H a xs ∧ Sd K b2 H c ys ∧ i ≤ xs.length ∧ i ≤ ys.length ∧ (xs.length = i ∨ ys.length = i)⟩
/-- the zip's five cells lie apart from one another and from what is zipped -/
structure Apart5 (z TI TO i1 i2 a c : Addr) : Prop where
  sep : ZipSep2 z TI TO i1 i2 [i1, a] [i2, c]
  a1 : a ≠ i1
  c2 : c ≠ i2
theorem apart_new {n a c : Nat} (ha : a < n) (hc : c < n) : Apart5 (n + 4) (n + 2) (n + 3) n (n + 1) a c :=
  ⟨zip_sep2 (N := n) (fp1 := [a]) (fp2 := [c]) (fun b hb => by rw [List.mem_singleton.mp hb]; exact ha) (fun b hb => by rw [List.mem_singleton.mp hb]; exact hc),
    fun e => by have e' : (a : Nat) = n := e; omega, fun e => by have e' : (c : Nat) = n + 1 := e; omega⟩
def ZSt (b1 b2 : Bool) (z TI TO i1 i2 a c : Addr) (i : Nat) (h : Heap) : Prop :=
  IsZip h z TI TO .none ∧ IsTupOf2 h TI (.ref i1) (.ref i2) ∧ (∃ x y, IsTupOf2 h TO x y) ∧ SdIt b1 h i1 a i ∧ SdIt b2 h i2 c i
theorem five {z TI TO i1 i2 c : Addr} (h : c ∈ [z, TI, TO, i1, i2]) : c = z ∨ c = TI ∨ c = TO ∨ c = i1 ∨ c = i2 := by simpa using h
theorem turnZ {P : Program} {w : World} {K : PySem.W.Frag} {elts : List Expr} {kk : Nat} {tpos : Pos} {b1 b2 : Bool} {a c z TI TO i1 i2 : Addr} (D : Apart5 z TI TO i1 i2 a c) :
    Turn P w K (.Tuple elts kk tpos) (ItZ K b1 b2 a c) [z, TI, TO, i1, i2] z (ZSt b1 b2 z TI TO i1 i2 a c) where
  mem := List.mem_cons_self ..
  obj := by
    intro i h st d hd
    obtain ⟨qz, qI, ⟨x, y, qO⟩, q1, q2⟩ := st
    rcases five hd with rfl | rfl | rfl | rfl | rfl
    · exact ⟨_, qz, fun v q => nomatch q⟩
    · exact ⟨_, qI, fun v q => nomatch q⟩
    · exact ⟨_, qO, fun v q => nomatch q⟩
    · exact sd_live q1
    · exact sd_live q2
  keep := by
    intro i h h' st k
    obtain ⟨qz, qI, ⟨x, y, qO⟩, q1, q2⟩ := st
    exact ⟨k z (by simp) _ qz, k TI (by simp) _ qI, ⟨x, y, k TO (by simp) _ qO⟩, sd_over q1 fun o e => k i1 (by simp) o e, sd_over q2 fun o e => k i2 (by simp) o e⟩
  item := by
    intro X hP hw hK hc i pins s σ H E I hf st hg
    subst hP hw hK
    obtain ⟨qz, qI, ⟨x0, y0, qO⟩, q1, q2⟩ := st
    obtain ⟨xs, ys, x, y, hqx, hqy, hx, hy⟩ := hg
    obtain ⟨us, rv, d1, la⟩ := sd_data I hqx
    obtain ⟨ws, rv2, d2, lc⟩ := sd_data I hqy
    obtain ⟨u, hu, ru⟩ := rv.get hx
    obtain ⟨u2, hu2, ru2⟩ := rv2.get hy
    have h1 : i < us.toArray.size := by
      obtain ⟨q, _⟩ := List.getElem?_eq_some_iff.mp hu
      simpa using q
    have h2 : i < ws.toArray.size := by
      obtain ⟨q, _⟩ := List.getElem?_eq_some_iff.mp hu2
      simpa using q
    have zl : z < s.heap.objs.size := Heap.lt_size qz
    refine wpAny_pyNext_zipD2_item D.sep (sd_draws (prog := X.prog) (w := X.w) (A := X.A.in1) b1 (I.ok.hd hc) i1 a D.a1 us.toArray) (sd_draws (prog := X.prog) (w := X.w) (A := X.A.in1) b2 (I.ok.hd hc) i2 c D.c2 ws.toArray) qz qI qO ⟨q1, d1⟩ ⟨q2, d2⟩ h1 h2 fun v1 v2 h' tk e1 e2 z' O' n1 n2 T' hsz hk => ?_
    have ev1 : v1 = u := Option.some.inj (e1.symm.trans (by simpa using hu))
    have ev2 : v2 = u2 := Option.some.inj (e2.symm.trans (by simpa using hu2))
    subst ev1 ev2
    refine ⟨_, rfl, wpAny_letOwnedTupleGo_zip (s := { s with heap := h', toks := tk }) z' fun h'' z'' sb => ?_⟩
    have hT2 : h''.get? s.heap.objs.size = some { cls := .type "tuple", data := .seq #[v1, v2] } := (sb.2 _ (Nat.ne_of_gt zl)).trans T'
    have new : ObjOk X.prog X.w (upd H s.heap.objs.size (.tup [x, y])) h'' s.heap.objs.size (.tup [x, y]) :=
      ⟨by show 2 ≤ sizeLine; decide, [v1, v2], .cons ru (.cons ru2 .nil), ⟨_, hT2, rfl, _, rfl⟩⟩
    have I1 : Inv X pins σ (upd H s.heap.objs.size (.tup [x, y])) { s with heap := h'', toks := tk } :=
      I.turnedNew (t' := tk) (ch := [z, TI, TO, i1, i2]) (fun d o nd q => by
        have nn : d ≠ z ∧ d ≠ TI ∧ d ≠ TO ∧ d ≠ i1 ∧ d ≠ i2 := by simpa using nd
        exact (sb.2 d nn.1).trans (hk d o nn.1 nn.2.2.1 nn.2.2.2.1 nn.2.2.2.2 q)) hf (Nat.le_refl _) new
    refine ⟨.ref s.heap.objs.size, _, I1, rfl, ⟨_, x, y, rfl, I.hok.fresh (Nat.le_refl _), rfl, fun l hl => by rw [sd_inj I hl hqx]; exact hx, fun l hl => by rw [sd_inj I hl hqy]; exact hy⟩,
      ⟨z'', (sb.2 _ D.sep.TIz).trans (hk _ _ D.sep.TIz D.sep.TITO D.sep.TIi1 D.sep.TIi2 qI), ⟨v1, v2, (sb.2 _ D.sep.TOz).trans O'⟩,
        sd_over n1.1 fun o q => (sb.2 _ fun e => D.sep.zf1 (by rw [← e]; exact D.sep.mem1)).trans q, sd_over n2.1 fun o q => (sb.2 _ fun e => D.sep.zf2 (by rw [← e]; exact D.sep.mem2)).trans q⟩, fun d hd => ?_⟩
    have dl : d < s.heap.objs.size := by
      rcases five hd with rfl | rfl | rfl | rfl | rfl
      · exact zl
      · exact Heap.lt_size qI
      · exact Heap.lt_size qO
      · obtain ⟨_, e, _⟩ := sd_live q1
        exact Heap.lt_size e
      · obtain ⟨_, e, _⟩ := sd_live q2
        exact Heap.lt_size e
    rw [upd_ne (Nat.ne_of_lt dl)]
    exact (hf d hd).1
  done := by
    intro X hP hw hK hc i pins s σ H E I hf st hg
    subst hP hw hK
    obtain ⟨qz, qI, ⟨x0, y0, qO⟩, q1, q2⟩ := st
    obtain ⟨xs, ys, hqx, hqy, l1, l2, hend⟩ := hg
    obtain ⟨us, rv, d1, la⟩ := sd_data I hqx
    obtain ⟨ws, rv2, d2, lc⟩ := sd_data I hqy
    have m1 := rv.length
    have m2 := rv2.length
    refine wpAny_pyNext_zipD2_end D.sep (sd_draws (prog := X.prog) (w := X.w) (A := X.A.in1) b1 (I.ok.hd hc) i1 a D.a1 us.toArray) (sd_draws (prog := X.prog) (w := X.w) (A := X.A.in1) b2 (I.ok.hd hc) i2 c D.c2 ws.toArray) qz qI qO ⟨q1, d1⟩ ⟨q2, d2⟩ (by simp; omega) (by simp; omega) (by simp; omega) fun h' tk hk => ⟨rfl, ?_⟩
    exact I.turnedL (t' := tk) (ch := [z, TI, TO, i1, i2]) (fun d o nd q => by
      have nn : d ≠ z ∧ d ≠ TI ∧ d ≠ TO ∧ d ≠ i1 ∧ d ≠ i2 := by simpa using nd
      exact hk d o nn.1 nn.2.2.1 nn.2.2.2.1 nn.2.2.2.2 q) hf
  self := fun A i s Q E st h => wpAny_pyIter_zip st.1 h
def iZ (K : PySem.W.Frag) (ta : TA) (b1 b2 : Bool) : TI := fun σ H R => ta σ H fun vs H1 => ∃ a c xs ys, vs = [.ref a, .ref c] ∧ Sd K b1 H1 a xs ∧ Sd K b2 H1 c ys ∧ R (ItZ K b1 b2 a c) H1
theorem piZ {X : Cx} {e e2 : Expr} {ta : TA} {p pos tpos : Pos} {elts : List Expr} {kk : Nat} (b1 b2 : Bool) (hg : Gl X "zip") (hm : X.mg "zip" = none) (ha : PA X [e, e2] ta)
    (hs : starEach [e, e2] X.env = (false, eval e X.env) :: starEach [e2] X.env := by rfl) (hpl : (backTo pos (starEach [e2] X.env)).any (·.1) = false := by rfl) :
    PI X (.Tuple elts kk tpos) (.Call (.Name "zip" p) [e, e2] [] pos) (iZ X.K ta b1 b2) := by
  constructor
  intro pins s σ H R I h
  refine Call_ (ld_blt I hg hm PyProof.Rows.boot_zip (PyProof.Rows.callWith_type1 (thn (ha.run pos pins s σ H _ I h) fun us s1 hyp => ?_) hs hpl))
  obtain ⟨vs, H1, I1, r1, a, c, xs, ys, rfl, hqx, hqy, q⟩ := hyp
  match us, r1 with
  | [_, _], .cons rfl (.cons rfl .nil) =>
    obtain ⟨us, rv, d1, la⟩ := sd_data I1 hqx
    obtain ⟨ws, rv2, d2, lc⟩ := sd_data I1 hqy
    refine zip_begins2 (sd_begins b1 a us.toArray) (sd_begins b2 c ws.toArray) d1 d2 fun h' hz hTI hTO h1 h2 hsz hk => wpAny_pyIter_zip hz ?_
    refine ⟨s1.heap.objs.size + 4, [s1.heap.objs.size + 4, s1.heap.objs.size + 2, s1.heap.objs.size + 3, s1.heap.objs.size, s1.heap.objs.size + 1], _, _, H1, rfl, I1.kept (t' := s1.toks) hk,
      turnZ (b1 := b1) (b2 := b2) (apart_new la lc), ⟨hz, hTI, ⟨_, _, hTO⟩, sd_it0 h1, sd_it0 h2⟩, fun d hd => ?_, q⟩
    have hle : s1.heap.objs.size ≤ d := by
      rcases five hd with z | z | z | z | z <;> rw [z]
      · exact Nat.le_add_right _ _
      · exact Nat.le_add_right _ _
      · exact Nat.le_add_right _ _
      · exact Nat.le_refl _
      · exact Nat.le_add_right _ _
    exact I1.fpOk hle (I1.hok.fresh hle)
theorem walkZ {K : PySem.W.Frag} {b1 b2 : Bool} {a c : Addr} {xs ys : List V} {n : Nat} (hn : n = min xs.length ys.length) :
    Walk (ItZ K b1 b2 a c) n (fun H => Sd K b1 H a xs ∧ Sd K b2 H c ys) (YPair (fun i => xs[i]?) (fun i => ys[i]?)) := by
  subst hn
  refine ⟨fun i _ hi q => ?_, fun _ q => ⟨xs, ys, q.1, q.2, by omega, by omega, by omega⟩, fun i H v H' _ q y => ?_⟩
  · have h1 : i < xs.length := by omega
    have h2 : i < ys.length := by omega
    exact ⟨xs, ys, xs[i], ys[i], q.1, q.2, by simp [h1], by simp [h2]⟩
  · obtain ⟨T, x, z, e1, e2, e3, e4, e5⟩ := y
    exact ⟨T, x, z, e1, e2, e3, e4 xs q.1, e5 ys q.2⟩

/-! ### enumerate -/
def ItE (K : PySem.W.Frag) (b : Bool) (a : Addr) : It :=
  ⟨fun i H => ∃ (xs : List V) (x : V), Sd K b H a xs ∧ xs[i]? = some x,
    fun i H v H' => ∃ T x, v = .ref T ∧ H T = none ∧ H' = upd H T (.tup [.int (i : Nat), x]) ∧ ∀ xs, Sd K b H a xs → xs[i]? = some x,
    fun i H => ∃ xs : List V, Sd K b H a xs ∧ xs.length = i⟩
def ESt (b : Bool) (e it a : Addr) (i : Nat) (h : Heap) : Prop := (∃ old, IsEnum h e it (i : Int) old) ∧ SdIt b h it a i
theorem turnE {P : Program} {w : World} {K : PySem.W.Frag} {elts : List Expr} {kk : Nat} {tpos : Pos} {b : Bool} {a e it : Addr} (ne : e ≠ it) (nea : e ≠ a) (nia : a ≠ it) :
    Turn P w K (.Tuple elts kk tpos) (ItE K b a) [e, it] e (ESt b e it a) where
  mem := List.mem_cons_self ..
  obj := by
    intro i h st d hd
    obtain ⟨⟨old, qe⟩, q1⟩ := st
    have hd' : d = e ∨ d = it := by simpa using hd
    rcases hd' with rfl | rfl
    · exact ⟨_, qe, fun v q => nomatch q⟩
    · exact sd_live q1
  keep := by
    intro i h h' st k
    obtain ⟨⟨old, qe⟩, q1⟩ := st
    exact ⟨⟨old, k e (by simp) _ qe⟩, sd_over q1 fun o z => k it (by simp) o z⟩
  item := by
    intro X hP hw hK hc i pins s σ H E I hf st hg
    subst hP hw hK
    obtain ⟨⟨old, qe⟩, q1⟩ := st
    obtain ⟨xs, x, hqx, hx⟩ := hg
    obtain ⟨us, rv, d1, la⟩ := sd_data I hqx
    obtain ⟨u, hu, ru⟩ := rv.get hx
    have h1 : i < us.toArray.size := by
      obtain ⟨q, _⟩ := List.getElem?_eq_some_iff.mp hu
      simpa using q
    have el : e < s.heap.objs.size := Heap.lt_size qe
    refine wpAny_pyNext_enum_itemC (sd_draws (prog := X.prog) (w := X.w) (A := X.A.in1) b (I.ok.hd hc) it a nia us.toArray) qe ⟨q1, d1⟩ h1 ne (by simp [ne, nea]) fun v h' tk e1 o' n1 T' hsz hk => ?_
    have ev : v = u := Option.some.inj (e1.symm.trans (by simpa using hu))
    subst ev
    refine ⟨_, rfl, wpAny_letOwnedTupleGo_enum (s := { s with heap := h', toks := tk + 1 }) o' fun h'' e'' sb => ?_⟩
    have hT2 : h''.get? s.heap.objs.size = some { cls := .type "tuple", data := .seq #[.int i tk, v] } := (sb.2 _ (Nat.ne_of_gt el)).trans T'
    have new : ObjOk X.prog X.w (upd H s.heap.objs.size (.tup [.int (i : Nat), x])) h'' s.heap.objs.size (.tup [.int (i : Nat), x]) :=
      ⟨by show 2 ≤ sizeLine; decide, [.int i tk, v], .cons ⟨_, rfl⟩ (.cons ru .nil), ⟨_, hT2, rfl, _, rfl⟩⟩
    have I1 : Inv X pins σ (upd H s.heap.objs.size (.tup [.int (i : Nat), x])) { s with heap := h'', toks := tk + 1 } :=
      I.turnedNew (t' := tk + 1) (ch := [e, it]) (fun d o nd q => by
        have nn : d ≠ e ∧ d ≠ it := by simpa using nd
        exact (sb.2 d nn.1).trans (hk d o nn.1 nn.2 q)) hf (Nat.le_refl _) new
    refine ⟨.ref s.heap.objs.size, _, I1, rfl, ⟨_, x, rfl, I.hok.fresh (Nat.le_refl _), rfl, fun l hl => by rw [sd_inj I hl hqx]; exact hx⟩,
      ⟨⟨v, ?_⟩, sd_over n1.1 fun o q => (sb.2 _ (Ne.symm ne)).trans q⟩, fun d hd => ?_⟩
    · have e1 : ((i + 1 : Nat) : Int) = (i : Int) + 1 := by omega
      rw [e1]
      exact e''
    · have dl : d < s.heap.objs.size := by
        have hd' : d = e ∨ d = it := by simpa using hd
        rcases hd' with rfl | rfl
        · exact el
        · obtain ⟨_, z, _⟩ := sd_live q1
          exact Heap.lt_size z
      rw [upd_ne (Nat.ne_of_lt dl)]
      exact (hf d hd).1
  done := by
    intro X hP hw hK hc i pins s σ H E I hf st hg
    subst hP hw hK
    obtain ⟨⟨old, qe⟩, q1⟩ := st
    obtain ⟨xs, hqx, l1⟩ := hg
    obtain ⟨us, rv, d1, la⟩ := sd_data I hqx
    have m1 := rv.length
    have ei : i = us.toArray.size := by simp; omega
    subst ei
    refine wpAny_pyNext_enum_endD (sd_draws (prog := X.prog) (w := X.w) (A := X.A.in1) b (I.ok.hd hc) it a nia us.toArray) qe ⟨q1, d1⟩ fun h' hk => ⟨rfl, ?_⟩
    exact I.turnedL (t' := s.toks) (ch := [e, it]) (fun d o nd q => by
      have nn : d ≠ e ∧ d ≠ it := by simpa using nd
      exact hk d o nn.2 q) hf
  self := fun A i s Q E st h => let ⟨⟨_, he⟩, _⟩ := st; wpAny_pyIter_enum he h
theorem meets_enum1 {v : Value} {o : Obj} {G : Heap → Prop} (B : Begins v o G) (hv : ∀ x t, v ≠ .str x t) :
    Meets (Builtin.«enumerate.__new__» ⟨[.type "enumerate", v], []⟩) (fun _ R s => G s.heap ∧
      R (.ok (.ret (.ref (s.heap.push o).objs.size))) { s with heap := (s.heap.push o).push { cls := .type "enumerate", data := .fields #[.none, .bool false, .ref s.heap.objs.size, rawInt 0, .none, .none] } }) :=
  .of_wp fun prog w A R s h => by
    obtain ⟨hp, g, d, tk, os⟩ := s
    obtain ⟨h1, h⟩ := h
    have subE := sub_enumerate
    have step : ∀ {A' : Around} {E : Value → Shared → Prop} {Q : Value → Shared → Prop}, Q (.ref hp.objs.size) ⟨hp.push o, g, d, tk, os⟩ → wpAny (model prog w) A' (pyIter v) Q E ⟨hp, g, d, tk, os⟩ :=
      fun q => B.iter prog w _ _ ⟨hp, g, d, tk, os⟩ _ h1 q
    wp_walk using step
    refine wpAny_stack_any fun st => wpAny_pure ?_
    split
    · rename_i c _ _ _ _ _
      cases (c == Value.type "enumerate") <;> (wp_walk using step; exact ⟨_, rfl, h⟩)
    · wp_walk using step
      exact ⟨_, rfl, h⟩
theorem enum_starts {prog : Program} {w : World} {A : Around} {E : Value → Shared → Prop} {s : Shared} {v : Value} {o : Obj} {G : Heap → Prop} {Q : Value → Shared → Prop} (B : Begins v o G) (hv : ∀ x t, v ≠ .str x t) (h1 : G s.heap)
    (h : ∀ h', IsEnum h' (s.heap.objs.size + 1) s.heap.objs.size 0 .none → h'.get? s.heap.objs.size = some o → (∀ b u, s.heap.get? b = some u → h'.get? b = some u) → Q (.ref (s.heap.objs.size + 1)) { s with heap := h' }) :
    wpAny (model prog w) A (call (.type "enumerate") [v]) Q E s := by
  refine callType_new F.called_enumerate (by decide) (F.typeCall_enumerate_1 _) (F.newCall_enumerate_1 _) (fun obj => F.args_object_init_2 obj _) F.entry_enumerate_new
    (meets_enum1 B hv) ⟨h1, ?_⟩
  have hz : (s.heap.push o).objs.size = s.heap.objs.size + 1 := Heap.size_push ..
  show _ ∧ _
  rw [hz]
  have he := Heap.get?_push_size (s.heap.push o) (o := { cls := .type "enumerate", data := .fields #[.none, .bool false, .ref s.heap.objs.size, rawInt 0, .none, .none] }) rfl
  rw [hz] at he
  exact ⟨⟨_, he, rfl⟩, h _ he (Heap.get?_push_of_some _ (Heap.get?_push_size _ B.free)) fun b u x => Heap.get?_push_of_some _ (Heap.get?_push_of_some _ x)⟩
def iE (K : PySem.W.Frag) (ta : TA) (b : Bool) : TI := fun σ H R => ta σ H fun vs H1 => ∃ a xs, vs = [.ref a] ∧ Sd K b H1 a xs ∧ R (ItE K b a) H1
theorem piE {X : Cx} {e : Expr} {ta : TA} {p pos tpos : Pos} {elts : List Expr} {kk : Nat} (b : Bool) (hg : Gl X "enumerate") (hm : X.mg "enumerate" = none) (ha : PA X [e] ta) (hs : starEach [e] X.env = [(false, eval e X.env)] := by rfl) :
    PI X (.Tuple elts kk tpos) (.Call (.Name "enumerate" p) [e] [] pos) (iE X.K ta b) := by
  constructor
  intro pins s σ H R I h
  refine Call_ (ld_blt I hg hm boot_enumerate (PyProof.Rows.callWith_type1 (thn (ha.run pos pins s σ H _ I h) fun us s1 hyp => ?_) hs rfl))
  obtain ⟨vs, H1, I1, r1, a, xs, rfl, hqx, q⟩ := hyp
  match us, r1 with
  | [_], .cons rfl .nil =>
    obtain ⟨us, rv, d1, la⟩ := sd_data I1 hqx
    refine enum_starts (sd_begins b a us.toArray) (fun _ _ z => by cases z) d1 fun h' he hi hk => wpAny_pyIter_enum he ?_
    refine ⟨s1.heap.objs.size + 1, [s1.heap.objs.size + 1, s1.heap.objs.size], _, _, H1, rfl, I1.kept (t' := s1.toks) hk,
      turnE (b := b) (a := a) (Nat.succ_ne_self _) (Nat.ne_of_gt (Nat.lt_succ_of_lt la)) (Nat.ne_of_lt la), ⟨⟨.none, he⟩, sd_it0 hi⟩, fun d hd => ?_, q⟩
    have hd' : d = s1.heap.objs.size + 1 ∨ d = s1.heap.objs.size := by simpa using hd
    have hle : s1.heap.objs.size ≤ d := by
      rcases hd' with z | z <;> rw [z]
      · exact Nat.le_add_right _ _
      · exact Nat.le_refl _
    exact I1.fpOk hle (I1.hok.fresh hle)
theorem walkE {K : PySem.W.Frag} {b : Bool} {a : Addr} {xs : List V} :
    Walk (ItE K b a) xs.length (fun H => Sd K b H a xs) (YPair (fun i => some (.int (i : Nat))) (fun i => xs[i]?)) := by
  refine ⟨fun i _ hi q => ⟨xs, xs[i], q, by simp [hi]⟩, fun _ q => ⟨xs, q, rfl⟩, fun i H v H' _ q y => ?_⟩
  obtain ⟨T, x, e1, e2, e3, e4⟩ := y
  exact ⟨T, .int (i : Nat), x, e1, e2, e3, rfl, e4 xs q⟩
end LW

namespace LW
open PySem PySem.Spec PyProof.Rows L2

/-- the built-in names that the texts use are still the built-in ones -/
structure Bl (mg : Str → Option Value) : Prop where
  len : mg "len" = none
  range : mg "range" = none
  zip : mg "zip" = none
  enumerate : mg "enumerate" = none
  sum : mg "sum" = none
  all : mg "all" = none
  tuple : mg "tuple" = none
  list : mg "list" = none
  isinstance : mg "isinstance" = none
  int : mg "int" = none
  bool : mg "bool" = none
  str : mg "str" = none
  type : mg "type" = none

theorem tupS {K : PySem.W.Frag} {H H' : Hp} {a : Addr} {xs : List V} (e : Same H H') (h : SqT K H a xs) : SqT K H' a xs := by
  rcases h with (h | ⟨o, h⟩) | h
  · exact .inl (.inl (e _ _ h))
  · exact .inl (.inr ⟨o, e _ _ h⟩)
  · exact .inr h
theorem sameNew {H : Hp} {p : Addr} {o : HO} (h : H p = none) : Same H (upd H p o) := fun b x e => by
  rw [upd_ne (ne_of_none e h)]
  exact e
/-- H0 is kept though an object that it does not know changes -/
theorem sameMut {H0 H : Hp} {p : Addr} {o : HO} (s : Same H0 H) (h : H0 p = none) : Same H0 (upd H p o) := fun b x e => by
  rw [upd_ne (ne_of_none e h)]
  exact s b x e

/-! ### sums -/
abbrev Sm := List Int × Int
/-- at v stands the sum s -/
def SumIn (K : PySem.W.Frag) (H : Hp) (v : V) (s : Sm) : Prop := ∃ a t, v = .ref a ∧ SqT K H a [.ref t, .int s.2] ∧ SqT K H t (s.1.map V.int)
theorem SumIn.mono {K : PySem.W.Frag} {H H' : Hp} {v : V} {s : Sm} (e : Same H H') (h : SumIn K H v s) : SumIn K H' v s := by
  obtain ⟨a, t, rfl, h1, h2⟩ := h
  exact ⟨a, t, rfl, tupS e h1, tupS e h2⟩
def dot : List Int → List Int → Int
  | a :: r, b :: t => a * b + dot r t
  | _, _ => 0
def val (s : Sm) (xs : List Int) : Int := s.2 + dot s.1 xs
/-- below 2 ^ n in size -/
def Wd (n : Nat) (i : Int) : Prop := i.natAbs < 2 ^ n
theorem Wd.mono {n m : Nat} {i : Int} (h : Wd n i) (l : n ≤ m) : Wd m i := Nat.lt_of_lt_of_le h (Nat.pow_le_pow_right (by decide) l)
theorem Wd.mulOk {n m : Nat} {i j : Int} (h : Wd n i) (h' : Wd m j) (a : 0 < n) (b : 0 < m) (l : n + m ≤ 1000000) : CMulW i j := wide_mul h h' a b l
theorem Wd.mul {n m : Nat} {i j : Int} (h : Wd n i) (h' : Wd m j) : Wd (n + m) (i * j) := wide_lt h h'
theorem Wd.add {n : Nat} {i j : Int} (h : Wd n i) (h' : Wd n j) : Wd (n + 1) (i + j) := by
  have a : i.natAbs < 2 ^ n := h
  have b : j.natAbs < 2 ^ n := h'
  show (i + j).natAbs < 2 ^ (n + 1)
  rw [Nat.pow_succ]
  omega

/-- zipped lists of ints -/
theorem dot_take {a b : List Int} {i : Nat} {x y : Int} (ha : a[i]? = some x) (hb : b[i]? = some y) : dot (a.take (i + 1)) (b.take (i + 1)) = dot (a.take i) (b.take i) + x * y := by
  induction a generalizing b i with
  | nil => simp at ha
  | cons p r ih =>
    cases b with
    | nil => simp at hb
    | cons q t =>
      cases i with
      | zero =>
        simp at ha hb
        subst ha hb
        simp [dot]
      | succ i =>
        have e := ih (b := t) (i := i) (by simpa using ha) (by simpa using hb)
        simp only [List.take_succ_cons, dot]
        rw [e]
        omega

/-! ### comprehensions that fill a list -/
/-- tuples (and what is locked) stand as they stood -/
def TS (H H' : Hp) : Prop := ∀ a, (∀ xs, H a = some (.tup xs) → H' a = some (.tup xs)) ∧ ∀ o u, H a = some (.frz o u) → H' a = some (.frz o u)
theorem TS.refl (H : Hp) : TS H H := fun _ => ⟨fun _ h => h, fun _ _ h => h⟩
theorem TS.trans {H H1 H2 : Hp} (a : TS H H1) (b : TS H1 H2) : TS H H2 := fun c => ⟨fun xs h => (b c).1 xs ((a c).1 xs h), fun o u h => (b c).2 o u ((a c).2 o u h)⟩
theorem tsOf {H H' : Hp} (e : Same H H') : TS H H' := fun a => ⟨fun _ h => e a _ h, fun _ _ h => e a _ h⟩
theorem tsLst {H : Hp} {D : Addr} {xs ys : List V} (h : H D = some (.lst xs)) : TS H (upd H D (.lst ys)) := fun a => by
  by_cases e : a = D
  · subst e
    exact ⟨fun _ q => (by rw [h] at q; cases q), fun _ _ q => (by rw [h] at q; cases q)⟩
  · exact ⟨fun _ q => by rw [upd_ne e]; exact q, fun _ _ q => by rw [upd_ne e]; exact q⟩
theorem tsTup {K : PySem.W.Frag} {H H' : Hp} {a : Addr} {xs : List V} (e : TS H H') (h : SqT K H a xs) : SqT K H' a xs := by
  rcases h with (h | ⟨o, h⟩) | h
  · exact .inl (.inl ((e a).1 _ h))
  · exact .inl (.inr ⟨o, (e a).2 _ _ h⟩)
  · exact .inr h
theorem tsSum {K : PySem.W.Frag} {H H' : Hp} {v : V} {s : Sm} (e : TS H H') (h : SumIn K H v s) : SumIn K H' v s := by
  obtain ⟨a, t, rfl, h1, h2⟩ := h
  exact ⟨a, t, rfl, tsTup e h1, tsTup e h2⟩
def Stable (R : Nat → V → Hp → Prop) : Prop := ∀ j y H H', TS H H' → R j y H → R j y H'
/-- i items made, each as R says, H0 kept -/
def Made (H0 : Hp) (D : Addr) (R : Nat → V → Hp → Prop) (i : Nat) (H : Hp) : Prop :=
  ∃ ys : List V, ys.length = i ∧ H D = some (.lst ys) ∧ Same H0 H ∧ ∀ j y, ys[j]? = some y → R j y H
theorem made0 {H0 : Hp} {D : Addr} {R : Nat → V → Hp → Prop} (h : H0 D = none) : Made H0 D R 0 (upd H0 D (.lst [])) :=
  ⟨[], rfl, upd_same, sameNew h, fun j y e => by simp at e⟩
theorem Made.push {H0 H H4 : Hp} {D : Addr} {R : Nat → V → Hp → Prop} {i : Nat} {y : V} (m : Made H0 D R i H) (hD : H0 D = none) (st : Stable R) (hi : i < 100000) (e : Same H H4) (r : R i y H4) :
    ∃ acc, H4 D = some (.lst acc) ∧ acc.length < sizeLine ∧ Made H0 D R (i + 1) (upd H4 D (.lst (acc ++ [y]))) := by
  obtain ⟨ys, rfl, h1, h2, h3⟩ := m
  have h4 : H4 D = some (.lst ys) := e _ _ h1
  refine ⟨ys, h4, Nat.lt_of_lt_of_le hi (by decide), ys ++ [y], by simp, upd_same, sameMut (Same.trans h2 e) hD, fun j z hz => ?_⟩
  have t : TS H4 (upd H4 D (.lst (ys ++ [y]))) := tsLst h4
  by_cases hj : j < ys.length
  · rw [List.getElem?_append_left hj] at hz
    exact st _ _ _ _ (TS.trans (tsOf e) t) (h3 j z hz)
  · rw [List.getElem?_append_right (by omega)] at hz
    have hz' : j - ys.length = 0 := by
      cases q : j - ys.length with
      | zero => rfl
      | succ n => rw [q] at hz; simp at hz
    rw [hz'] at hz
    have ez : y = z := by simpa using hz
    have ej : j = ys.length := by omega
    subst ez ej
    exact st _ _ _ _ t r
theorem Made.same {H0 H : Hp} {D : Addr} {R : Nat → V → Hp → Prop} {i : Nat} (m : Made H0 D R i H) : Same H0 H := by
  obtain ⟨_, _, _, h, _⟩ := m
  exact h
/-- items that are ints told by a function -/
def RI (f : Nat → Int) : Nat → V → Hp → Prop := fun j y _ => y = .int (f j)
theorem stRI (f : Nat → Int) : Stable (RI f) := fun _ _ _ _ _ h => h
theorem madeRI {H0 H : Hp} {D : Addr} {f : Nat → Int} {n : Nat} (m : Made H0 D (RI f) n H) : H D = some (.lst (((List.range n).map f).map V.int)) ∧ Same H0 H := by
  obtain ⟨ys, e, h1, h2, h3⟩ := m
  refine ⟨?_, h2⟩
  rw [h1]
  congr 2
  apply List.ext_getElem?
  intro j
  by_cases hj : j < n
  · have hl : j < ys.length := by omega
    have q := h3 j ys[j] (List.getElem?_eq_getElem hl)
    rw [List.getElem?_eq_getElem hl, q]
    simp [hj]
  · rw [List.getElem?_eq_none (by omega), List.getElem?_eq_none (by simp; omega)]
/-- items that are ints with a property -/
def RP (p : Nat → Int → Prop) : Nat → V → Hp → Prop := fun j y _ => ∃ i, y = .int i ∧ p j i
theorem stRP (p : Nat → Int → Prop) : Stable (RP p) := fun _ _ _ _ _ h => h
theorem madeRP {H0 H : Hp} {D : Addr} {p : Nat → Int → Prop} {n : Nat} (m : Made H0 D (RP p) n H) : ∃ ns : List Int, ns.length = n ∧ H D = some (.lst (ns.map V.int)) ∧ Same H0 H ∧ ∀ (j : Nat) (i : Int), ns[j]? = some i → p j i := by
  obtain ⟨ys, e, h1, h2, h3⟩ := m
  have key : ∀ (l : List V) (k : Nat), (∀ j y, l[j]? = some y → ∃ i, y = .int i ∧ p (k + j) i) → ∃ ns : List Int, l = ns.map V.int ∧ ∀ (j : Nat) (i : Int), ns[j]? = some i → p (k + j) i := by
    intro l
    induction l with
    | nil => exact fun k _ => ⟨[], rfl, fun j i h => by simp at h⟩
    | cons y r ih =>
      intro k h
      obtain ⟨i, e1, p1⟩ := h 0 y rfl
      obtain ⟨ns, e2, p2⟩ := ih (k + 1) fun j z hz => by
        have q := h (j + 1) z (by simpa using hz)
        rw [show k + 1 + j = k + (j + 1) by omega]
        exact q
      refine ⟨i :: ns, by rw [e1, e2]; rfl, fun j z hz => ?_⟩
      cases j with
      | zero =>
        have : i = z := by simpa using hz
        subst this
        exact p1
      | succ j =>
        have q := p2 j z (by simpa using hz)
        rw [show k + (j + 1) = k + 1 + j by omega]
        exact q
  obtain ⟨ns, rfl, hp⟩ := key ys 0 fun j y hy => by
    obtain ⟨i, q1, q2⟩ := h3 j y hy
    exact ⟨i, q1, by rw [Nat.zero_add]; exact q2⟩
  refine ⟨ns, by simpa using e, h1, h2, fun j i h => ?_⟩
  have q := hp j i h
  rwa [Nat.zero_add] at q

theorem dot_sum (a b : List Int) (h : a.length = b.length) : dot a b = ((List.range a.length).map fun i => (a[i]?.getD 0) * (b[i]?.getD 0)).sum := by
  induction a generalizing b with
  | nil => rfl
  | cons x r ih =>
    cases b with
    | nil => simp at h
    | cons y t =>
      have e := ih t (by simpa using h)
      rw [List.length_cons, List.range_succ_eq_map, List.map_cons, List.sum_cons, List.map_map]
      simp only [dot, e]
      congr 1

/-! ### targets within a comprehension: without defaults, so that what is wanted is known first -/
theorem pgN {X : Cx} {i : Nat} {x : Str} {pos : Pos} (hN : X.N.Nodup) (hi : X.N[i]? = some x) (hx : Loc X.env.scope x) (hf : X.fn x = true ∨ X.env.scope.names.lookup x = some .local) : PG X (.Name x pos) (gName i) := pg_name hN hi hx hf
theorem pgT2 {X : Cx} {K : PySem.W.Frag} {e1 e2 : Expr} {k : Nat} {pos : Pos} {t u : TG} (hK : X.K = K) (h1 : PG X e1 t) (h2 : PG X e2 u) (hc : X.calm = true)
    (a : (assignEach [e1, e2] X.env).map (·.2) = assign e1 X.env :: (assignEach [e2] X.env).map (·.2)) (b : (assignEach [e2] X.env).map (·.2) = assign e2 X.env :: (assignEach [] X.env).map (·.2))
    (hn : (assignEach [e1, e2] X.env).length = 2) (hst : (assignEach [e1, e2] X.env).findIdx? (·.1) = none) : PG X (.Tuple [e1, e2] k pos) (gTup K 2 (gCons t (gCons u gNil))) := by
  subst hK
  exact pg_tup hc (pgs_cons h1 (pgs_cons h2 pgs_nil b) a) hn hst

/-! ### the rules with the written part named -/
section
variable {X : Cx} {K : PySem.W.Frag}
def rLenK (K : PySem.W.Frag) : List V → Hp → VK → Prop := fun xs H Q => ∃ p ys, xs = [.ref p] ∧ (SqL K H p ys ∨ SqT K H p ys) ∧ Q (.int (ys.length : Nat)) H
def rListK (K : PySem.W.Frag) : List V → Hp → VK → Prop := fun xs H Q => ∃ p ys, xs = [.ref p] ∧ (SqL K H p ys ∨ SqT K H p ys) ∧ ∀ l, H l = none → Q (.ref l) (upd H l (.lst ys))
def rTupK (K : PySem.W.Frag) : List V → Hp → VK → Prop := fun xs H Q => ∃ p ys, xs = [.ref p] ∧ ((SqL K H p ys ∧ ∀ l, H l = none → Q (.ref l) (upd H l (.tup ys))) ∨ (SqT K H p ys ∧ Q (.ref p) H))
theorem kLen (h : X.K = K) : CallR X (.builtin "len") (rLenK K) := by subst h; exact call_len_seq
theorem kList (h : X.K = K) : CallR X (.type "list") (rListK K) := by subst h; exact call_list_of
theorem kTup (h : X.K = K) : CallR X (.type "tuple") (rTupK K) := by subst h; exact call_tuple_of
theorem kSum (h : X.K = K) (hc : X.calm = true) : CallR X (.builtin "sum") (rSum K) := by subst h; exact cr_sum hc
theorem kAll (h : X.K = K) (hc : X.calm = true) : CallR X (.builtin "all") (rAll K) := by subst h; exact cr_all hc
theorem kIsi (h : X.K = K) : CallR X (.builtin "isinstance") (rIsi K) := by subst h; exact call_isi
theorem kIxL (h : X.K = K) : IxR X (rIxL K) := by subst h; exact ix_list
theorem kIxT (h : X.K = K) : IxR X (rIxT K) := by subst h; exact ix_tup
theorem kSlL (h : X.K = K) : SlR X (rSlL K) := by subst h; exact sl_list
theorem kSlT (h : X.K = K) : SlR X (rSlA K) := by subst h; exact sl_tupA
theorem kCatT (h : X.K = K) : OpR X (binaryOp .Add) (rCatA K) := by subst h; exact op_catA
theorem kRepT (h : X.K = K) : OpR X (binaryOp .Mult) (rRepT K) := by subst h; exact op_repT
theorem kIn (h : X.K = K) : OpR X (compareOp .In) (rIn K false) := by subst h; exact op_in_seq
theorem kNotIn (h : X.K = K) : OpR X (compareOp .NotIn) (rIn K true) := by subst h; exact op_notIn_seq
theorem kEqD (h : X.K = K) (hu : X.A.units + 64 < cLine) : OpR X (compareOp .Eq) (rEqD K) := by subst h; exact op_eqD hu
theorem kNeD (h : X.K = K) (hu : X.A.units + 64 < cLine) : OpR X (compareOp .NotEq) (rNeD K) := by subst h; exact op_neD hu
theorem kList_ {tg l : Expr} {tl : TE} (h : X.K = K) (hl : PE X l tl) : PI X tg l (iList K tl) := by subst h; exact pi_list hl
theorem kTup_ {tg l : Expr} {tl : TE} (h : X.K = K) (hl : PE X l tl) : PI X tg l (iTup K tl) := by subst h; exact pi_tup hl
theorem kZ {e e2 : Expr} {ta : TA} {p pos tpos : Pos} {elts : List Expr} {kk : Nat} (h : X.K = K) (b1 b2 : Bool) (hg : Gl X "zip") (hm : X.mg "zip" = none) (ha : PA X [e, e2] ta)
    (hs : starEach [e, e2] X.env = (false, eval e X.env) :: starEach [e2] X.env := by rfl) (hpl : (backTo pos (starEach [e2] X.env)).any (·.1) = false := by rfl) :
    PI X (.Tuple elts kk tpos) (.Call (.Name "zip" p) [e, e2] [] pos) (iZ K ta b1 b2) := by subst h; exact piZ b1 b2 hg hm ha hs hpl
theorem kE {e : Expr} {ta : TA} {p pos tpos : Pos} {elts : List Expr} {kk : Nat} (h : X.K = K) (b : Bool) (hg : Gl X "enumerate") (hm : X.mg "enumerate" = none) (ha : PA X [e] ta) (hs : starEach [e] X.env = [(false, eval e X.env)] := by rfl) :
    PI X (.Tuple elts kk tpos) (.Call (.Name "enumerate" p) [e] [] pos) (iE K ta b) := by subst h; exact piE b hg hm ha hs
theorem kT2 {e1 e2 : Expr} {k : Nat} {pos : Pos} {t u : TG} (h : X.K = K) (hc : X.calm = true) (h1 : PG X e1 t) (h2 : PG X e2 u)
    (a : (assignEach [e1, e2] X.env).map (·.2) = assign e1 X.env :: (assignEach [e2] X.env).map (·.2) := by rfl) (b : (assignEach [e2] X.env).map (·.2) = assign e2 X.env :: (assignEach [] X.env).map (·.2) := by rfl)
    (hn : (assignEach [e1, e2] X.env).length = 2 := by rfl) (hst : (assignEach [e1, e2] X.env).findIdx? (·.1) = none := by rfl) : PG X (.Tuple [e1, e2] k pos) (gTup K 2 (gCons t (gCons u gNil))) := by
  subst h
  exact pg_tup hc (pgs_cons h1 (pgs_cons h2 pgs_nil b) a) hn hst
theorem kApp (h : X.K = K) {o : Expr} {es : List Expr} {e : Expr} {to : TE} {t : TA} {apos cpos : Pos} (ho : PE X o to) (ha : PA X [e] t) (hh : PE X (.Call (.Attribute o "append" apos) [e] [] cpos) (tBM X.K "list" rAppend to t)) : PE X (.Call (.Attribute o "append" apos) [e] [] cpos) (tBM K "list" rAppend to t) := by subst h; exact hh
end

theorem mapAt {ns : List Int} {i : Nat} {x : V} (e : (ns.map V.int)[i]? = some x) (h : i < ns.length) : x = .int ns[i] := by
  rw [List.getElem?_map, List.getElem?_eq_getElem h] at e
  exact (Option.some.inj e).symm
theorem intAt {ns : List Int} {i : Nat} (h : i < ns.length) : (ns.map V.int)[i]? = some (.int ns[i]) := by
  rw [List.getElem?_map, List.getElem?_eq_getElem h]
  rfl

theorem lcYes {σ : L2.St} {H : Hp} {A B : Hp → Prop} (h : A H) : tYes σ H (fun b H3 => if b = true then A H3 else B H3) := by
  show (if true = true then A H else B H)
  exact iteT h

theorem tyTup {K : PySem.W.Frag} {H : Hp} {a : Addr} {xs : List V} (h : SqT K H a xs) : TyX K H (.ref a) (.type "tuple") := by
  rcases h with (h | ⟨o, h⟩) | ⟨o, its, n, h, hc, _⟩
  · exact .base (.tup h)
  · exact .fTuple h
  · exact .kTuple h hc
theorem tyLst {K : PySem.W.Frag} {H : Hp} {a : Addr} {xs : List V} (h : SqL K H a xs) : TyX K H (.ref a) (.type "list") := by
  rcases h with (h | ⟨o, h⟩) | ⟨o, its, n, h, hc, _⟩
  · exact .base (.lst h)
  · exact .base (.frz h)
  · exact .kList h hc

/-- the list of values vs: the sums ss -/
def SumsIn (K : PySem.W.Frag) (H : Hp) (vs : List V) (ss : List Sm) : Prop := Paired (SumIn K H) vs ss
theorem SumsIn.len {K : PySem.W.Frag} {H : Hp} {vs : List V} {ss : List Sm} (h : SumsIn K H vs ss) : vs.length = ss.length := Paired.length h
theorem sumsAt {K : PySem.W.Frag} {H : Hp} : ∀ {vs : List V} {ss : List Sm} {i : Nat} {v : V} (_ : SumsIn K H vs ss) (_ : vs[i]? = some v), ∃ s, ss[i]? = some s ∧ SumIn K H v s
  | _, _, _, _, .nil, e => by simp at e
  | _, _, 0, _, .cons r _, e => by
    simp at e
    subst e
    exact ⟨_, rfl, r⟩
  | _, _, i + 1, v, .cons _ t, e => by
    obtain ⟨s, h1, h2⟩ := sumsAt (i := i) t (by simpa using e)
    exact ⟨s, by simpa using h1, h2⟩
theorem tsSums {K : PySem.W.Frag} {H H' : Hp} (e : TS H H') {vs : List V} {ss : List Sm} (h : SumsIn K H vs ss) : SumsIn K H' vs ss := Paired.mapP h fun _ _ r => tsSum e r

/-! ### bounds -/
theorem dotWd {n m : Nat} : ∀ {a b : List Int}, (∀ x ∈ a, Wd n x) → (∀ y ∈ b, Wd m y) → Wd (n + m + a.length) (dot a b)
  | [], _, _, _ => by
    show (0 : Int).natAbs < _
    exact Nat.two_pow_pos _
  | _ :: _, [], _, _ => by
    show (0 : Int).natAbs < _
    exact Nat.two_pow_pos _
  | x :: r, y :: t, h, h' => by
    have ih := dotWd (a := r) (b := t) (fun z hz => h z (List.mem_cons_of_mem _ hz)) (fun z hz => h' z (List.mem_cons_of_mem _ hz))
    exact Wd.add (n := n + m + r.length) (Wd.mono (Wd.mul (h x (List.mem_cons_self ..)) (h' y (List.mem_cons_self ..))) (by omega)) ih
theorem sumWd {n : Nat} : ∀ {a : List Int}, (∀ x ∈ a, Wd n x) → Wd (n + a.length) a.sum
  | [], _ => by
    show (0 : Int).natAbs < _
    exact Nat.two_pow_pos _
  | x :: r, h => by
    have ih := sumWd (a := r) fun z hz => h z (List.mem_cons_of_mem _ hz)
    rw [List.sum_cons]
    exact Wd.add (n := n + r.length) (Wd.mono (h x (List.mem_cons_self ..)) (by omega)) ih
theorem valWd {n m : Nat} {s : Sm} {xs : List Int} (h : ∀ x ∈ s.1, Wd n x) (h2 : Wd n s.2) (h' : ∀ y ∈ xs, Wd m y) : Wd (n + m + s.1.length + 1) (val s xs) :=
  Wd.add (Wd.mono h2 (by omega)) (dotWd h h')

/-! ### data -/
def dI (ns : List Int) : List PyData := ns.map PyData.int
def dS (s : Sm) : PyData := .tuple [.tuple (dI s.1), .int s.2]
theorem dpInts {K : PySem.W.Frag} {H : Hp} : ∀ ns : List Int, DpAll K H (ns.map V.int) (dI ns)
  | [] => .nil
  | n :: r => .cons (.int n) (dpInts r)
theorem dpSum {K : PySem.W.Frag} {H : Hp} {v : V} {s : Sm} (h : SumIn K H v s) : Dp K H v (dS s) := by
  obtain ⟨a, t, rfl, h1, h2⟩ := h
  exact .tup h1 (.cons (.tup h2 (dpInts _)) (.cons (.int _) .nil))
theorem dpSums {K : PySem.W.Frag} {H : Hp} : ∀ {vs : List V} {ss : List Sm}, SumsIn K H vs ss → DpAll K H vs (ss.map dS)
  | _, _, .nil => .nil
  | _, _, .cons r t => .cons (dpSum r) (dpSums t)

/-- data that can be laid, at most n deep -/
def Ly (n : Nat) (d : PyData) : Prop := d.canLay0 = true ∧ d.depth ≤ n
def LyA (n : Nat) (ds : List PyData) : Prop := PyData.canLayAll0 ds = true ∧ PyData.depthAll ds ≤ n
theorem Ly.shaped {n : Nat} {d : PyData} (h : Ly n d) (l : n ≤ 64) : SeqAt.shaped d = true := by
  unfold SeqAt.shaped
  rw [h.1, decide_eq_true (Nat.le_trans h.2 l)]
  rfl
theorem Ly.same {n : Nat} {d : PyData} (h : Ly n d) : PyData.eqv d d = true := SeqAt.eqv_refl d h.1
theorem lyInt (i : Int) : Ly 1 (.int i) := ⟨by simp [PyData.canLay0], by simp [PyData.depth]⟩
theorem lyNil (n : Nat) : LyA n [] := ⟨by simp [PyData.canLayAll0], by simp [PyData.depthAll]⟩
theorem lyCons {n : Nat} {d : PyData} {ds : List PyData} (h : Ly n d) (h' : LyA n ds) : LyA n (d :: ds) := by
  refine ⟨?_, ?_⟩
  · simp [PyData.canLayAll0, h.1, h'.1]
  · have a := h.2
    have b := h'.2
    simp [PyData.depthAll]
    omega
theorem lyTup {n : Nat} {ds : List PyData} (h : LyA n ds) : Ly (n + 1) (.tuple ds) := by
  refine ⟨by simp [PyData.canLay0, h.1], ?_⟩
  have b := h.2
  simp [PyData.depth]
  omega
theorem lyLst {n : Nat} {ds : List PyData} (h : LyA n ds) : Ly (n + 1) (.list ds) := by
  refine ⟨by simp [PyData.canLay0, h.1], ?_⟩
  have b := h.2
  simp [PyData.depth]
  omega
theorem Ly.up {n m : Nat} {d : PyData} (h : Ly n d) (l : n ≤ m) : Ly m d := ⟨h.1, Nat.le_trans h.2 l⟩
theorem lyInts : ∀ ns : List Int, LyA 1 (dI ns)
  | [] => lyNil 1
  | n :: r => lyCons (lyInt n) (lyInts r)
theorem lySum (s : Sm) : Ly 3 (dS s) := lyTup (lyCons (lyTup (lyInts _)) (lyCons ((lyInt _).up (by decide)) (lyNil _)))
theorem lySums : ∀ ss : List Sm, LyA 3 (ss.map dS)
  | [] => lyNil 3
  | s :: r => lyCons (lySum s) (lySums r)

theorem pairedApp {α β : Type} {R : α → β → Prop} : ∀ {a c : List α} {b d : List β}, Paired R a b → Paired R c d → Paired R (a ++ c) (b ++ d)
  | _, _, _, _, .nil, h => h
  | _, _, _, _, .cons r t, h => .cons r (pairedApp t h)
end LW

namespace LW
open PySem PySem.Spec PyProof.Rows L2
/-! ### types compared -/
theorem slotTyNe : Slot "type" (cmpInfo .NotEq).2.1 "object.__ne__" :=
  .of (owner := "object") (n := "__ne__") (by rw [typeLookup_type, builtinLookup_eq_fast] <;> kernel_rfl) (by decide +kernel) (by decide +kernel) (by decide +kernel)
    (by first | exact .inr (by decide +kernel) | exact .inl (by decide +kernel)) (by rw [isSubtype_type] <;> kernel_rfl)
theorem slotTyNe2 : Slot "type" (cmpInfo .NotEq).2.2 "object.__ne__" := slotTyNe
section
variable {prog : Program} {w : World} {A : Around} {E : Value → Shared → Prop} {s : Shared}
theorem neSame {X : String} (hX : ∀ s' : Shared, s'.TypeIs (.type X) "type") {Q : Fin → Shared → Prop} (q : Q (.done (.ret (.bool false))) s) :
    wpAny (model prog w) A (Builtin.«object.__ne__» ⟨[.type X, .type X], []⟩) Q E s := by
  obtain ⟨hp, g, d, tk, os⟩ := s
  unfold Builtin.«object.__ne__»
  have step : ∀ {A' : Around} {R : Option Value → Shared → Prop}, R (some (.bool true)) ⟨hp, g, d, tk, os⟩ → wpAny (model prog w) A' (callSpecialIfBound? (.type X) "__eq__" [.type X]) R E ⟨hp, g, d, tk, os⟩ := fun {A' R} r =>
    wpAny_callSpecialIfBound?_slot (hX _) TypeEq.slot_type_eq (call_gives TypeEq.slot_type_eq (hX _) F.entry_object_eq (F.args_object_eq_2 _ _) (TypeEq.object_eq_same rfl (by simp)) r)
  repeat (first | with_reducible refine wpAny_cRoomFor_or (.inl rfl) ?_ | with_reducible refine step ?_ | wp_step)
  exact q
theorem neOther {X Y : String} (hX : ∀ s' : Shared, s'.TypeIs (.type X) "type") (hne : (Value.type X == Value.type Y) = false) {Q : Fin → Shared → Prop} (q : Q (.done (.ret .notImplemented)) s) :
    wpAny (model prog w) A (Builtin.«object.__ne__» ⟨[.type X, .type Y], []⟩) Q E s := by
  obtain ⟨hp, g, d, tk, os⟩ := s
  unfold Builtin.«object.__ne__»
  have step : ∀ {A' : Around} {R : Option Value → Shared → Prop}, R (some .notImplemented) ⟨hp, g, d, tk, os⟩ → wpAny (model prog w) A' (callSpecialIfBound? (.type X) "__eq__" [.type Y]) R E ⟨hp, g, d, tk, os⟩ := fun {A' R} r =>
    wpAny_callSpecialIfBound?_slot (hX _) TypeEq.slot_type_eq (call_gives TypeEq.slot_type_eq (hX _) F.entry_object_eq (F.args_object_eq_2 _ _) (TypeEq.object_eq_other rfl hne) r)
  repeat (first | with_reducible refine wpAny_cRoomFor_or (.inl rfl) ?_ | with_reducible refine step ?_ | wp_step)
  exact q
theorem neTySame {X : String} (hX : ∀ s' : Shared, s'.TypeIs (.type X) "type") {Q : Value → Shared → Prop} (q : Q (.bool false) s) : wpAny (model prog w) A (compareOp .NotEq (.type X) (.type X)) Q E s := by
  show wpAny _ A (richCompare .NotEq _ _) Q E s
  exact wpAny_richCompare_same (T := "type") (hX s) (hX s) slotTyNe (wpAny_call_entry slotTyNe (hX s) F.cmpEntry_ne (neSame hX ⟨_, rfl, (by intro e; cases e), q⟩) (F.cmpArgs_ne _ _))
theorem neTyOther {X Y : String} (hX : ∀ s' : Shared, s'.TypeIs (.type X) "type") (hY : ∀ s' : Shared, s'.TypeIs (.type Y) "type") (hne : (Value.type X == Value.type Y) = false) {Q : Value → Shared → Prop} (q : Q (.bool true) s) :
    wpAny (model prog w) A (compareOp .NotEq (.type X) (.type Y)) Q E s := by
  have hne' : (Value.type Y == Value.type X) = false := by
    rw [Bool.eq_false_iff] at hne ⊢
    exact fun e => hne (by rw [beq_iff_eq] at e ⊢; exact e.symm)
  have c1 : wpAny (model prog w) A (call (.builtin "object.__ne__") [.type X, .type Y]) (fun v s1 => v = .notImplemented ∧ s1 = s) E s :=
    wpAny_call_entry slotTyNe (hX s) F.cmpEntry_ne (neOther hX hne ⟨_, rfl, rfl, rfl⟩) (F.cmpArgs_ne _ _)
  have c2 : wpAny (model prog w) A (call (.builtin "object.__ne__") [.type Y, .type X]) (fun v s1 => v = .notImplemented ∧ s1 = s) E s :=
    wpAny_call_entry slotTyNe (hY s) F.cmpEntry_ne (neOther hY hne' ⟨_, rfl, rfl, rfl⟩) (F.cmpArgs_ne _ _)
  have t1 : ∀ {R : Option Value → Shared → Prop}, R none s → wpAny (model prog w) A (tryCompare (.type X) "__ne__" (.type Y)) R E s := fun {R} r =>
    wpAny_tryCompare_declines (hX s) slotTyNe (wpAny_mono c1 (fun v s1 h => ⟨h.1, by rw [h.2]; exact r⟩) fun _ _ z => z)
  have t2 : ∀ {R : Option Value → Shared → Prop}, R none s → wpAny (model prog w) A (tryCompare (.type Y) "__ne__" (.type X)) R E s := fun {R} r =>
    wpAny_tryCompare_declines (hY s) slotTyNe (wpAny_mono c2 (fun v s1 h => ⟨h.1, by rw [h.2]; exact r⟩) fun _ _ z => z)
  show wpAny _ A (richCompare .NotEq _ _) Q E s
  have hi : cmpInfo CmpOp.NotEq = (("!=", "__ne__", "__ne__") : String × Str × Str) := rfl
  simp only [richCompare, hi, (hX s).oneThing_none]
  try with_reducible refine wpAny_holding ?_
  refine wpAny_bind (wpAny_cRoomFor_or (.inl rfl) ?_)
  refine wpAny_bind (wpAny_typeOf (hX s) (wpAny_bind (wpAny_typeOf (hY s) ?_)))
  simp only [bne_self_eq_false, Bool.false_eq_true, if_false, pure_bind, Bool.not_false, if_true]
  refine wpAny_bind (t1 ?_)
  refine wpAny_bind (t2 ?_)
  refine wpAny_bind (wpAny_rule (wpAny_bind (wpAny_of_eq (isSame_plain rfl) (wpAny_pure ?_))))
  rw [hne]
  exact q
end

/-! ### type(x), and types as values -/
/-- the built-in types that the texts ask for -/
def tyOk (n : String) : Prop := ∀ s' : Shared, s'.TypeIs (.type n) "type"
inductive Known : String → Prop
  | int : Known "int" | str : Known "str" | bool : Known "bool" | non : Known "NoneType" | lst : Known "list" | tup : Known "tuple" | dct : Known "dict"
theorem Known.ok {n : String} (h : Known n) : tyOk n := by
  cases h
  · exact TypeEq.meta_int
  · exact TypeEq.meta_str
  · exact TypeEq.meta_bool
  · exact TypeEq.meta_NoneType
  · exact TypeEq.meta_list
  · exact TypeEq.meta_tuple
  · exact TypeEq.meta_dict
/-- the type of a value by its name -/
inductive TyN (K : PySem.W.Frag) (H : Hp) : V → String → Prop
  | non : TyN K H .non "NoneType"
  | bl (b : Bool) : TyN K H (.bl b) "bool"
  | int (i : Int) : TyN K H (.int i) "int"
  | str (x : Str) : TyN K H (.str x) "str"
  | lst {a : Addr} {xs : List V} (h : SqL K H a xs) : TyN K H (.ref a) "list"
  | tup {a : Addr} {xs : List V} (h : SqT K H a xs) : TyN K H (.ref a) "tuple"
  | dct {a : Addr} {kvs : List (Key × V)} (h : H a = some (.dK kvs)) : TyN K H (.ref a) "dict"
theorem TyN.known {K : PySem.W.Frag} {H : Hp} {x : V} {n : String} (h : TyN K H x n) : Known n := by cases h <;> constructor
def rTyN (K : PySem.W.Frag) : List V → Hp → VK → Prop := fun xs H Q => ∃ (x : V) (n : String), xs = [x] ∧ TyN K H x n ∧ Q (.ty n) H
theorem kType {X : Cx} {K : PySem.W.Frag} (h : X.K = K) : CallR X (.type "type") (rTyN K) := by
  subst h
  intro pins s σ H xs us Q I r h
  obtain ⟨x, n, rfl, t, q⟩ := h
  match us, r with
  | [u], .cons rx .nil =>
    have fin : ∀ (hx : s.TypeIs u n) (hb : (Value.type n == Value.type "builtin_function_or_method") = false), wpAny (model X.prog X.w) X.A (call (.type "type") [u]) (EP X pins σ Q) X.xe s := fun hx hb =>
      call_type_of hx hb ⟨.ty n, H, I, rfl, q⟩
    cases t with
    | non => cases rx; exact fin rfl (by decide +kernel)
    | bl b => cases rx; exact fin rfl (by decide +kernel)
    | int i => obtain ⟨k, rfl⟩ := rx; exact fin (typeIs_int s i k) (by decide +kernel)
    | str z => obtain ⟨k, rfl⟩ := rx; exact fin (typeIs_str s z k) (by decide +kernel)
    | lst e => cases rx; obtain ⟨_, _, p, _⟩ := I.list e; exact fin p.isList.typeIs (by decide +kernel)
    | tup e => cases rx; obtain ⟨_, _, p, _⟩ := I.tuple e; exact fin p.typeIs (by decide +kernel)
    | dct e => cases rx; obtain ⟨_, _, _, _, o, _, _, e1, e2, _⟩ := I.hok _ _ e; exact fin ⟨o, e1, e2.1⟩ (by decide +kernel)
def rEqTy : R2 := fun x y H Q => ∃ a b, x = .ty a ∧ y = .ty b ∧ Known a ∧ Known b ∧ Q (.bl (decide (a = b))) H
def rNeTy : R2 := fun x y H Q => ∃ a b, x = .ty a ∧ y = .ty b ∧ Known a ∧ Known b ∧ Q (.bl (!decide (a = b))) H
theorem tyDiff {a b : String} (h : ¬ a = b) : (Value.type a == Value.type b) = false := by
  rw [Bool.eq_false_iff]
  intro e
  rw [beq_iff_eq] at e
  cases e
  exact h rfl
theorem kEqTy {X : Cx} : OpR X (compareOp .Eq) rEqTy := by
  intro pins s σ H x y v u Q I rx ry h
  obtain ⟨a, b, rfl, rfl, ka, kb, q⟩ := h
  cases rx
  cases ry
  by_cases e : a = b
  · subst e
    exact TypeEq.eq_type_same ka.ok ⟨.bl true, H, I, rfl, by rw [decide_eq_true rfl] at q; exact q⟩
  · exact TypeEq.eq_type_other ka.ok kb.ok (tyDiff e) ⟨.bl false, H, I, rfl, by rw [decide_eq_false e] at q; exact q⟩
theorem kNeTy {X : Cx} : OpR X (compareOp .NotEq) rNeTy := by
  intro pins s σ H x y v u Q I rx ry h
  obtain ⟨a, b, rfl, rfl, ka, kb, q⟩ := h
  cases rx
  cases ry
  by_cases e : a = b
  · subst e
    exact neTySame ka.ok ⟨.bl false, H, I, rfl, by rw [decide_eq_true rfl] at q; exact q⟩
  · exact neTyOther ka.ok kb.ok (tyDiff e) ⟨.bl true, H, I, rfl, by rw [decide_eq_false e] at q; exact q⟩
end LW

namespace LW
open PySem PySem.Spec PyProof.Rows L2
/-! ### data that a program may be made of -/
inductive D where
  | non | bl (b : Bool) | int (i : Int) | str (s : Str) | lst | dct | tup (ds : List D)
mutual
inductive Din (K : PySem.W.Frag) (H : Hp) : V → D → Prop
  | non : Din K H .non .non
  | bl (b : Bool) : Din K H (.bl b) (.bl b)
  | int (i : Int) : Din K H (.int i) (.int i)
  | str (s : Str) : Din K H (.str s) (.str s)
  | lst {a : Addr} {xs : List V} (h : SqL K H a xs) : Din K H (.ref a) .lst
  | dct {a : Addr} {kvs : List (Key × V)} (h : H a = some (.dK kvs)) : Din K H (.ref a) .dct
  | tup {a : Addr} {xs : List V} {ds : List D} (h : SqT K H a xs) (t : DinA K H xs ds) : Din K H (.ref a) (.tup ds)
inductive DinA (K : PySem.W.Frag) (H : Hp) : List V → List D → Prop
  | nil : DinA K H [] []
  | cons {v : V} {vs : List V} {d : D} {ds : List D} (h : Din K H v d) (t : DinA K H vs ds) : DinA K H (v :: vs) (d :: ds)
end
mutual
/-- without lists and dicts -/
def D.pure : D → Bool
  | .lst => false
  | .dct => false
  | .tup ds => D.pures ds
  | _ => true
def D.pures : List D → Bool
  | [] => true
  | d :: r => D.pure d && D.pures r
end
section
variable {K : PySem.W.Frag} {H H' : Hp}
mutual
theorem dinSame (e : Same H H') : ∀ {d : D} {v : V}, Din K H v d → Din K H' v d
  | .non, _, .non => .non
  | .bl _, _, .bl b => .bl b
  | .int _, _, .int i => .int i
  | .str _, _, .str s => .str s
  | .lst, _, .lst h => .lst (Same.seq e h)
  | .dct, _, .dct h => .dct (e _ _ h)
  | .tup ds, _, .tup h t => .tup (tupS e h) (dinASame e t)
theorem dinASame (e : Same H H') : ∀ {ds : List D} {vs : List V}, DinA K H vs ds → DinA K H' vs ds
  | [], _, .nil => .nil
  | _ :: _, _, .cons h t => .cons (dinSame e h) (dinASame e t)
end
mutual
theorem dinTS (e : TS H H') : ∀ {d : D} {v : V}, d.pure = true → Din K H v d → Din K H' v d
  | .non, _, _, .non => .non
  | .bl _, _, _, .bl b => .bl b
  | .int _, _, _, .int i => .int i
  | .str _, _, _, .str s => .str s
  | .lst, _, p, _ => by simp [D.pure] at p
  | .dct, _, p, _ => by simp [D.pure] at p
  | .tup ds, _, p, .tup h t => .tup (tsTup e h) (dinATS e (by simpa [D.pure] using p) t)
theorem dinATS (e : TS H H') : ∀ {ds : List D} {vs : List V}, D.pures ds = true → DinA K H vs ds → DinA K H' vs ds
  | [], _, _, .nil => .nil
  | _ :: _, _, p, .cons h t => by
    simp only [D.pures, Bool.and_eq_true] at p
    exact .cons (dinTS e p.1 h) (dinATS e p.2 t)
end
theorem DinA.len : ∀ {vs : List V} {ds : List D}, DinA K H vs ds → vs.length = ds.length
  | _, _, .nil => rfl
  | _, _, .cons _ t => by rw [List.length_cons, List.length_cons, DinA.len t]
theorem dinAt : ∀ {vs : List V} {ds : List D} {i : Nat} {v : V}, DinA K H vs ds → vs[i]? = some v → ∃ d, ds[i]? = some d ∧ Din K H v d
  | _, _, _, _, .nil, e => by simp at e
  | _, _, 0, _, .cons h _, e => by
    simp at e
    subst e
    exact ⟨_, rfl, h⟩
  | _, _, i + 1, v, .cons _ t, e => by
    obtain ⟨d, h1, h2⟩ := dinAt (i := i) t (by simpa using e)
    exact ⟨d, by simpa using h1, h2⟩
theorem dinAtD : ∀ {vs : List V} {ds : List D} {i : Nat} {d : D}, DinA K H vs ds → ds[i]? = some d → ∃ v, vs[i]? = some v ∧ Din K H v d
  | _, _, _, _, .nil, e => by simp at e
  | _, _, 0, _, .cons h _, e => by
    simp at e
    subst e
    exact ⟨_, rfl, h⟩
  | _, _, i + 1, v, .cons _ t, e => by
    obtain ⟨d, h1, h2⟩ := dinAtD (i := i) t (by simpa using e)
    exact ⟨d, by simpa using h1, h2⟩
theorem dinApp : ∀ {a c : List V} {b d : List D}, DinA K H a b → DinA K H c d → DinA K H (a ++ c) (b ++ d)
  | _, _, _, _, .nil, h => h
  | _, _, _, _, .cons r t, h => .cons r (dinApp t h)
theorem dinDrop : ∀ {vs : List V} {ds : List D} (n : Nat), DinA K H vs ds → DinA K H (vs.drop n) (ds.drop n)
  | _, _, 0, h => by simpa using h
  | _, _, _ + 1, .nil => by simpa using DinA.nil
  | _, _, n + 1, .cons _ t => by simpa using dinDrop n t
theorem dinTake : ∀ {vs : List V} {ds : List D} (n : Nat), DinA K H vs ds → DinA K H (vs.take n) (ds.take n)
  | _, _, 0, h => by simpa using DinA.nil
  | _, _, _ + 1, .nil => by simpa using DinA.nil
  | _, _, n + 1, .cons h t => by simpa using DinA.cons h (dinTake n t)
theorem dinInts : ∀ ns : List Int, DinA K H (ns.map V.int) (ns.map D.int)
  | [] => .nil
  | n :: r => .cons (.int n) (dinInts r)
theorem pureInts : ∀ ns : List Int, D.pures (ns.map D.int) = true
  | [] => rfl
  | n :: r => by
    simp only [List.map_cons, D.pures, D.pure, Bool.true_and]
    exact pureInts r
/-- a sum as data -/
def dSm (s : Sm) : D := .tup [.tup (s.1.map D.int), .int s.2]
theorem dinSum {v : V} {s : Sm} (h : SumIn K H v s) : Din K H v (dSm s) := by
  obtain ⟨a, t, rfl, h1, h2⟩ := h
  exact .tup h1 (.cons (.tup h2 (dinInts _)) (.cons (.int _) .nil))
theorem sumDin {v : V} {s : Sm} (h : Din K H v (dSm s)) : SumIn K H v s := by
  cases h with
  | tup h1 t =>
    cases t with
    | cons a b =>
      cases a with
      | tup h2 t2 =>
        cases b with
        | cons c d =>
          cases c
          cases d
          have key : ∀ (ns : List Int) (xs : List V), DinA K H xs (ns.map D.int) → xs = ns.map V.int := by
            intro ns
            induction ns with
            | nil =>
              intro xs h
              cases h
              rfl
            | cons n r ih =>
              intro xs h
              cases h with
              | cons p q =>
                cases p
                rw [ih _ q]
                rfl
          rw [key _ _ t2] at h2
          exact ⟨_, _, rfl, h1, h2⟩
theorem pureSum (s : Sm) : (dSm s).pure = true := by
  simp [dSm, D.pure, D.pures, pureInts]
/-- its type's name -/
def D.ty : D → String
  | .non => "NoneType" | .bl _ => "bool" | .int _ => "int" | .str _ => "str" | .lst => "list" | .dct => "dict" | .tup _ => "tuple"
theorem dinTy {v : V} {d : D} (h : Din K H v d) : TyN K H v d.ty := by
  cases h with
  | non => exact .non
  | bl b => exact .bl b
  | int i => exact .int i
  | str s => exact .str s
  | lst h => exact .lst h
  | dct h => exact .dct h
  | tup h _ => exact .tup h
end

/-! ### what is a program -/
def fromTo (d : D) (lo hi : Int) : Bool := match d with
  | .int i => decide (lo ≤ i) && decide (i ≤ hi)
  | _ => false
def sumOk (many : Nat) (d : D) : Bool := match d with
  | .tup [.tup ns, l] => decide (ns.length = many) && ns.all (fun n => fromTo n (-9) 9) && fromTo l (-99) 99
  | _ => false
def wordsOk (many : Nat) (d : D) : Bool := match d with
  | .tup ws => decide (ws.length ≤ 3) && ws.all (sumOk many)
  | _ => false
def restOk (many : Nat) (k : Str) (rest : List D) : Bool :=
  if k = "put" then (match rest with | [b, s] => fromTo b 0 ((many : Int) - 1) && sumOk many s | _ => false)
  else if k = "say" then (match rest with | [w] => sumOk many w | _ => false)
  else if k = "if" then (match rest with | [w, _, _] => sumOk many w | _ => false)
  else if k = "loop" then (match rest with | [w, ws, _] => sumOk many w && wordsOk many ws | _ => false)
  else false
/-- a row is well, but for the rows within it -/
def rowOk (many : Nat) (d : D) : Bool := match d with
  | .tup (.str k :: rest) => restOk many k rest
  | _ => false
/-- the rows within a row -/
def inner (d : D) : List D := match d with
  | .tup (.str k :: rest) => if k = "if" then rest.drop 1 else if k = "loop" then rest.drop 2 else []
  | _ => []
def addTo (f : D → Option Nat) (c : Nat) (d : D) : Option Nat := (f d).bind fun n => if 12 < c + n then none else some (c + n)
def rowTo (many : Nat) (f : D → Option Nat) (c : Nat) (d : D) : Option Nat := if rowOk many d then (inner d).foldlM (addTo f) c else none
/-- how many rows in all; none where these are no rows of a program (r: how deep it may still go) -/
def chk (many : Nat) : Nat → D → Option Nat
  | 0, _ => none
  | r + 1, .tup rows => if 12 < rows.length then none else rows.foldlM (rowTo many (chk many r)) rows.length
  | _ + 1, _ => none
def topsOk (ts : List D) : Bool := decide (1 ≤ ts.length) && decide (ts.length ≤ 3) && ts.all fun t => fromTo t 0 9

def D.isInt : D → Bool | .int _ => true | _ => false
def D.isTup : D → Bool | .tup _ => true | _ => false
def D.isStr : D → Bool | .str _ => true | _ => false
theorem decInt (d : D) : decide (d.ty = "int") = d.isInt := by cases d <;> simp [D.ty, D.isInt]
theorem decTup (d : D) : decide (d.ty = "tuple") = d.isTup := by cases d <;> simp [D.ty, D.isTup]
theorem decStr (d : D) : decide (d.ty = "str") = d.isStr := by cases d <;> simp [D.ty, D.isStr]
theorem notDec {p : Prop} [Decidable p] {A B : Prop} (h1 : ¬ p → A) (h2 : p → B) : if (!decide p) = true then A else B := by
  by_cases h : p
  · rw [decide_eq_true h]
    exact iteF (h2 h)
  · rw [decide_eq_false h]
    exact iteT (h1 h)
theorem yesDec {p : Prop} [Decidable p] {A B : Prop} (h1 : p → A) (h2 : ¬ p → B) : if decide p = true then A else B := by
  by_cases h : p
  · rw [decide_eq_true h]
    exact iteT (h1 h)
  · rw [decide_eq_false h]
    exact iteF (h2 h)
theorem ifB {b : Bool} {A B : Prop} (h1 : b = true → A) (h2 : b = false → B) : if b = true then A else B := by
  cases b with
  | true => exact iteT (h1 rfl)
  | false => exact iteF (h2 rfl)
theorem intEq {a b : Int} : (V.int a = V.int b) ↔ a = b := ⟨fun h => V.int.inj h, fun h => by rw [h]⟩
theorem strEq {a b : Str} : (V.str a = V.str b) ↔ a = b := ⟨fun h => V.str.inj h, fun h => by rw [h]⟩
theorem sumOk_not {many : Nat} {ds : List D} (h : ds.length ≠ 2) : sumOk many (.tup ds) = false := by
  unfold sumOk
  split
  · rename_i e
    cases e
    exact absurd rfl h
  · rfl
theorem din2 {K : PySem.W.Frag} {H : Hp} {xs : List V} {ds : List D} (h : DinA K H xs ds) (l : ds.length = 2) : ∃ x y dx dy, xs = [x, y] ∧ ds = [dx, dy] ∧ Din K H x dx ∧ Din K H y dy := by
  cases h with
  | nil => simp at l
  | cons h1 t =>
    cases t with
    | nil => simp at l
    | cons h2 t2 =>
      cases t2 with
      | nil => exact ⟨_, _, _, _, rfl, rfl, h1, h2⟩
      | cons h3 t3 => simp at l

theorem allMap {α : Type} (p : α → Bool) (l : List α) : ((l.map p).all id) = l.all p := by
  rw [List.all_map]
  rfl
/-- a comprehension of tests -/
theorem madeBl {H0 H : Hp} {D : Addr} {n : Nat} {α : Type} {ds : List α} {p : α → Bool} (m : Made H0 D (fun i y _ => y = .bl ((ds[i]?.map p).getD false)) n H) (hn : n = ds.length) : H D = some (.lst ((ds.map p).map V.bl)) ∧ Same H0 H := by
  obtain ⟨ys, ly, g, sm, hy⟩ := m
  refine ⟨?_, sm⟩
  rw [g]
  congr 2
  apply List.ext_getElem?
  intro j
  by_cases hj : j < ys.length
  · have hj2 : j < ds.length := by omega
    have := hy j ys[j] (List.getElem?_eq_getElem hj)
    rw [List.getElem?_eq_getElem hj, this]
    simp [hj2]
  · rw [List.getElem?_eq_none (by omega), List.getElem?_eq_none (by simp; omega)]

theorem din1 {K : PySem.W.Frag} {H : Hp} {xs : List V} {ds : List D} (h : DinA K H xs ds) (l : ds.length = 1) : ∃ x dx, xs = [x] ∧ ds = [dx] ∧ Din K H x dx := by
  cases h with
  | nil => simp at l
  | cons h1 t =>
    cases t with
    | nil => exact ⟨_, _, rfl, rfl, h1⟩
    | cons h2 t2 => simp at l
theorem din3 {K : PySem.W.Frag} {H : Hp} {xs : List V} {ds : List D} (h : DinA K H xs ds) (l : ds.length = 3) : ∃ x y z dx dy dz, xs = [x, y, z] ∧ ds = [dx, dy, dz] ∧ Din K H x dx ∧ Din K H y dy ∧ Din K H z dz := by
  cases h with
  | nil => simp at l
  | cons h1 t =>
    obtain ⟨y, z, dy, dz, rfl, rfl, hy, hz⟩ := din2 t (by simpa using l)
    exact ⟨_, _, _, _, _, _, rfl, rfl, h1, hy, hz⟩
end LW

namespace LW
open PySem PySem.Spec PyProof.Rows L2
/-! ### rows that are well, and how many they are -/
def good (many : Nat) : Nat → D → Bool
  | r + 1, .tup rows => rows.all fun row => rowOk many row && (inner row).all (good many r)
  | _, _ => false
def cnt : Nat → D → Nat
  | r + 1, .tup rows => (rows.map fun row => 1 + ((inner row).map (cnt r)).sum).sum
  | _, _ => 0
theorem addFold (f : D → Option Nat) (g : D → Bool) (n : D → Nat) (hf : ∀ d, f d = if g d = true ∧ n d ≤ 12 then some (n d) else none) : ∀ (l : List D) (c : Nat), c ≤ 12 →
    l.foldlM (addTo f) c = if (l.all g) = true ∧ c + (l.map n).sum ≤ 12 then some (c + (l.map n).sum) else none
  | [], c, h => by
    simp
    exact h
  | d :: r, c, h => by
    rw [List.foldlM_cons]
    unfold addTo
    rw [hf d]
    by_cases hd : g d = true ∧ n d ≤ 12
    · rw [if_pos hd]
      by_cases h12 : 12 < c + n d
      · rw [show ((some (n d)).bind fun m => if 12 < c + m then none else some (c + m)) = none by simp [h12]]
        rw [if_neg (by
          rintro ⟨_, q⟩
          simp only [List.map_cons, List.sum_cons] at q
          omega)]
        rfl
      · rw [show ((some (n d)).bind fun m => if 12 < c + m then none else some (c + m)) = some (c + n d) by simp [h12]]
        have ih := addFold f g n hf r (c + n d) (by omega)
        show r.foldlM (addTo f) (c + n d) = _
        rw [ih]
        simp only [List.all_cons, hd.1, Bool.true_and, List.map_cons, List.sum_cons, Nat.add_assoc]
    · rw [if_neg hd]
      rw [if_neg (by
        rintro ⟨q1, q2⟩
        simp only [List.all_cons, Bool.and_eq_true, List.map_cons, List.sum_cons] at q1 q2
        exact hd ⟨q1.1, by omega⟩)]
      rfl
theorem rowFold (many : Nat) (f : D → Option Nat) (g : D → Bool) (n : D → Nat) (hf : ∀ d, f d = if g d = true ∧ n d ≤ 12 then some (n d) else none) : ∀ (l : List D) (c : Nat), c ≤ 12 →
    l.foldlM (rowTo many f) c = if (l.all fun row => rowOk many row && (inner row).all g) = true ∧ c + (l.map fun row => ((inner row).map n).sum).sum ≤ 12 then some (c + (l.map fun row => ((inner row).map n).sum).sum) else none
  | [], c, h => by
    simp
    exact h
  | d :: r, c, h => by
    rw [List.foldlM_cons]
    unfold rowTo
    by_cases ho : rowOk many d = true
    · rw [if_pos ho, addFold f g n hf (inner d) c h]
      by_cases hd : (inner d).all g = true ∧ c + ((inner d).map n).sum ≤ 12
      · rw [if_pos hd]
        have ih := rowFold many f g n hf r _ hd.2
        show r.foldlM (rowTo many f) (c + ((inner d).map n).sum) = _
        rw [ih]
        simp only [List.all_cons, ho, hd.1, Bool.true_and, Bool.and_self, List.map_cons, List.sum_cons, Nat.add_assoc]
      · rw [if_neg hd]
        rw [if_neg (by
          rintro ⟨q1, q2⟩
          simp only [List.all_cons, Bool.and_eq_true, List.map_cons, List.sum_cons] at q1 q2
          exact hd ⟨q1.1.2, by omega⟩)]
        rfl
    · rw [if_neg ho]
      rw [if_neg (by
        rintro ⟨q1, q2⟩
        simp only [List.all_cons, Bool.and_eq_true] at q1
        exact ho q1.1.1)]
      rfl
theorem sum_one {α : Type} (f : α → Nat) : ∀ l : List α, (l.map fun x => 1 + f x).sum = l.length + (l.map f).sum
  | [] => rfl
  | x :: r => by
    simp only [List.map_cons, List.sum_cons, List.length_cons, sum_one f r]
    omega
/-- what the check tells -/
theorem chk_is (many : Nat) : ∀ (r : Nat) (d : D), chk many r d = if good many r d = true ∧ cnt r d ≤ 12 then some (cnt r d) else none
  | 0, d => by
    cases d <;> simp [chk, good]
  | r + 1, d => by
    cases d with
    | tup rows =>
      have e : cnt (r + 1) (.tup rows) = rows.length + (rows.map fun row => ((inner row).map (cnt r)).sum).sum := by
        simp only [cnt]
        exact sum_one _ rows
      simp only [chk]
      by_cases h : 12 < rows.length
      · rw [if_pos h, if_neg (by
          rintro ⟨_, q⟩
          omega)]
      · rw [if_neg h, rowFold many _ (good many r) (cnt r) (chk_is many r) rows rows.length (by omega), e]
        simp only [good]
        congr
    | _ => simp [chk, good]
theorem chk_some {many r : Nat} {d : D} (h : good many r d = true) (h' : cnt r d ≤ 12) : chk many r d = some (cnt r d) := by rw [chk_is, if_pos ⟨h, h'⟩]
theorem chk_none {many r : Nat} {d : D} (h : good many r d = false ∨ 12 < cnt r d) : chk many r d = none := by
  rw [chk_is, if_neg]
  rintro ⟨a, b⟩
  rcases h with h | h
  · rw [h] at a
    cases a
  · omega
/-- a row that is well at a depth -/
def GRow (many r : Nat) (d : D) : Prop := rowOk many d = true ∧ d.pure = true ∧ (inner d).all (good many r) = true
def cntRow (r : Nat) (d : D) : Nat := 1 + ((inner d).map (cnt r)).sum
theorem good_tup {many r : Nat} {ds : List D} (h : ∀ d ∈ ds, GRow many r d) : good many (r + 1) (.tup ds) = true := by
  simp only [good, List.all_eq_true, Bool.and_eq_true]
  exact fun d hd => ⟨(h d hd).1, by have := (h d hd).2.2; rwa [List.all_eq_true] at this⟩
theorem cnt_tup {r : Nat} {ds : List D} : cnt (r + 1) (.tup ds) = (ds.map (cntRow r)).sum := rfl
/-- a sum within the bounds -/
def SumW (many : Nat) (s : Sm) : Prop := s.1.length = many ∧ (∀ n ∈ s.1, -9 ≤ n ∧ n ≤ 9) ∧ -99 ≤ s.2 ∧ s.2 ≤ 99
theorem fromTo_int {i lo hi : Int} (h : lo ≤ i) (h' : i ≤ hi) : fromTo (.int i) lo hi = true := by simp [fromTo, h, h']
theorem sumOk_of {many : Nat} {s : Sm} (h : SumW many s) : sumOk many (dSm s) = true := by
  obtain ⟨h1, h2, h3, h4⟩ := h
  simp only [dSm, sumOk, List.length_map, h1, decide_true, Bool.true_and, fromTo_int h3 h4, Bool.and_true, List.all_map]
  rw [List.all_eq_true]
  intro n hn
  exact fromTo_int (h2 n hn).1 (h2 n hn).2
theorem put_row {many r : Nat} {b : Int} {s : Sm} (h0 : 0 ≤ b) (hb : b < many) (h : SumW many s) : GRow many r (.tup [.str "put", .int b, dSm s]) := by
  have e : ("put" : Str) ≠ "if" ∧ ("put" : Str) ≠ "loop" := by decide +kernel
  refine ⟨?_, ?_, ?_⟩
  · simp [rowOk, restOk, fromTo_int h0 (show b ≤ (many : Int) - 1 by omega), sumOk_of h]
  · simp [D.pure, D.pures, pureSum]
  · simp [inner, e.1, e.2]
theorem say_row {many r : Nat} {s : Sm} (h : SumW many s) : GRow many r (.tup [.str "say", dSm s]) := by
  have e : ("say" : Str) ≠ "if" ∧ ("say" : Str) ≠ "loop" ∧ ("say" : Str) ≠ "put" := by decide +kernel
  refine ⟨?_, ?_, ?_⟩
  · simp [rowOk, restOk, e.2.2, sumOk_of h]
  · simp [D.pure, D.pures, pureSum]
  · simp [inner, e.1, e.2.1]
theorem if_row {many r : Nat} {s : Sm} {a b : List D} (h : SumW many s) (ha : good many r (.tup a) = true) (hb : good many r (.tup b) = true) (pa : D.pures a = true) (pb : D.pures b = true) :
    GRow many r (.tup [.str "if", dSm s, .tup a, .tup b]) := by
  have e : ("if" : Str) ≠ "put" ∧ ("if" : Str) ≠ "say" := by decide +kernel
  refine ⟨?_, ?_, ?_⟩
  · simp [rowOk, restOk, e.1, e.2, sumOk_of h]
  · simp [D.pure, D.pures, pureSum, pa, pb]
  · simp [inner, ha, hb]
theorem loop_row {many r : Nat} {s : Sm} {ws : List Sm} {b : List D} (h : SumW many s) (hw : ∀ w ∈ ws, SumW many w) (hl : ws.length ≤ 3) (hb : good many r (.tup b) = true) (pb : D.pures b = true) :
    GRow many r (.tup [.str "loop", dSm s, .tup (ws.map dSm), .tup b]) := by
  have e : ("loop" : Str) ≠ "put" ∧ ("loop" : Str) ≠ "say" ∧ ("loop" : Str) ≠ "if" := by decide +kernel
  have pw : D.pures (ws.map dSm) = true := by
    have key : ∀ l : List Sm, D.pures (l.map dSm) = true := by
      intro l
      induction l with
      | nil => rfl
      | cons x r ih => simp [D.pures, pureSum, ih]
    exact key ws
  have ww : wordsOk many (.tup (ws.map dSm)) = true := by
    simp only [wordsOk, List.length_map, List.all_map, Bool.and_eq_true, decide_eq_true_eq, List.all_eq_true]
    exact ⟨hl, fun w hw' => sumOk_of (hw w hw')⟩
  refine ⟨?_, ?_, ?_⟩
  · simp [rowOk, restOk, e.1, e.2.1, e.2.2, sumOk_of h, ww]
  · simp [D.pure, D.pures, pureSum, pb, pw]
  · simp [inner, e.2.2, hb]
theorem cnt_if {r : Nat} {s : D} {a b : List D} : cntRow r (.tup [.str "if", s, .tup a, .tup b]) = 1 + cnt r (.tup a) + cnt r (.tup b) := by
  simp [cntRow, inner]
  omega
theorem cnt_loop {r : Nat} {s ws : D} {b : List D} : cntRow r (.tup [.str "loop", s, ws, .tup b]) = 1 + cnt r (.tup b) := by
  have e : ("loop" : Str) ≠ "if" := by decide +kernel
  simp [cntRow, inner, e]
theorem cnt_put {r : Nat} {b s : D} : cntRow r (.tup [.str "put", b, s]) = 1 := by
  have e : ("put" : Str) ≠ "if" ∧ ("put" : Str) ≠ "loop" := by decide +kernel
  simp [cntRow, inner, e.1, e.2]
theorem cnt_say {r : Nat} {s : D} : cntRow r (.tup [.str "say", s]) = 1 := by
  have e : ("say" : Str) ≠ "if" ∧ ("say" : Str) ≠ "loop" := by decide +kernel
  simp [cntRow, inner, e.1, e.2]

/-! ### the state of the drawing -/
def stK (sc tp : Addr) (p l : Int) : List (Key × V) := [(.inr "script", .ref sc), (.inr "at", .int p), (.inr "left", .int l), (.inr "tops", .ref tp)]
theorem stNe : ¬ (("script" : Str) = "at") ∧ ¬ (("script" : Str) = "left") ∧ ¬ (("script" : Str) = "tops") ∧ ¬ (("at" : Str) = "left") ∧ ¬ (("at" : Str) = "tops") ∧ ¬ (("left" : Str) = "tops") := by decide +kernel
theorem keyNe {a b : Str} (h : ¬ a = b) : ¬ ((Sum.inr a : Key) = Sum.inr b) := fun e => h (Sum.inr.inj e)
section
variable {sc tp : Addr} {p l z : Int}
theorem st_script : valV (stK sc tp p l) (.inr "script") = some (.ref sc) := valV_pos rfl
theorem st_at : valV (stK sc tp p l) (.inr "at") = some (.int p) := (valV_neg (keyNe stNe.1)).trans (valV_pos rfl)
theorem st_left : valV (stK sc tp p l) (.inr "left") = some (.int l) := (valV_neg (keyNe stNe.2.1)).trans ((valV_neg (keyNe stNe.2.2.2.1)).trans (valV_pos rfl))
theorem st_tops : valV (stK sc tp p l) (.inr "tops") = some (.ref tp) := (valV_neg (keyNe stNe.2.2.1)).trans ((valV_neg (keyNe stNe.2.2.2.2.1)).trans ((valV_neg (keyNe stNe.2.2.2.2.2)).trans (valV_pos rfl)))
theorem put_at_ : putK (stK sc tp p l) (.inr "at") (.int z) = stK sc tp z l := by
  unfold putK
  rw [valV_any, st_at]
  simp only [Option.isSome_some, if_true, stK, List.map_cons, List.map_nil]
  rw [if_neg (keyNe stNe.1), if_neg (keyNe fun e => stNe.2.2.2.1 e.symm), if_neg (keyNe fun e => stNe.2.2.2.2.1 e.symm)]
theorem put_left_ : putK (stK sc tp p l) (.inr "left") (.int z) = stK sc tp p z := by
  unfold putK
  rw [valV_any, st_left]
  simp only [Option.isSome_some, if_true, stK, List.map_cons, List.map_nil]
  rw [if_neg (keyNe stNe.2.1), if_neg (keyNe stNe.2.2.2.1), if_neg (keyNe fun e => stNe.2.2.2.2.2 e.symm)]
end
/-- all but ds as it was -/
def But (ds : Addr) (H H' : Hp) : Prop := ∀ b o, b ≠ ds → H b = some o → H' b = some o
theorem But.refl (ds : Addr) (H : Hp) : But ds H H := fun _ _ _ h => h
theorem But.trans {ds : Addr} {H H1 H2 : Hp} (a : But ds H H1) (b : But ds H1 H2) : But ds H H2 := fun c o n h => b c o n (a c o n h)
theorem butOf {ds : Addr} {H H' : Hp} (e : Same H H') : But ds H H' := fun b o _ h => e b o h
theorem butSeq {K : PySem.W.Frag} {ds a : Addr} {H H' : Hp} {xs : List V} {kvs : List (Key × V)} (e : But ds H H') (hd : H ds = some (.dK kvs)) (h : SqL K H a xs) : SqL K H' a xs := by
  rcases h with (h | ⟨o, h⟩) | h
  · exact .inl (.inl (e _ _ (fun z => by rw [z, hd] at h; cases h) h))
  · exact .inl (.inr ⟨o, e _ _ (fun z => by rw [z, hd] at h; cases h) h⟩)
  · exact .inr h
theorem butTS {ds : Addr} {H H' : Hp} {kvs : List (Key × V)} (e : But ds H H') (hd : H ds = some (.dK kvs)) : TS H H' := fun a =>
  ⟨fun xs h => e _ _ (fun z => by rw [z, hd] at h; cases h) h, fun o u h => by
    by_cases z : a = ds
    · subst z
      rw [hd] at h
      cases h
    · exact e _ _ z h⟩
def TopsW (tops : List Int) : Prop := 1 ≤ tops.length ∧ tops.length ≤ 3 ∧ ∀ t ∈ tops, 0 ≤ t ∧ t ≤ 9
structure Stt (K : PySem.W.Frag) (H : Hp) (ds sc tp : Addr) (script tops : List Int) (p l : Int) : Prop where
  d : H ds = some (.dK (stK sc tp p l))
  s : SqL K H sc (script.map V.int)
  s63 : script.length ≤ 63
  t : SqL K H tp (tops.map V.int)
  w : TopsW tops
section
variable {K : PySem.W.Frag} {H H' : Hp} {ds sc tp : Addr} {script tops : List Int} {p l z : Int}
theorem Stt.gS (h : Stt K H ds sc tp script tops p l) : DGet H ds (.str "script") (some (.ref sc)) := by
  have q := DGet.k (k := Sum.inr "script") h.d
  rw [st_script] at q
  exact q
theorem Stt.gA (h : Stt K H ds sc tp script tops p l) : DGet H ds (.str "at") (some (.int p)) := by
  have q := DGet.k (k := Sum.inr "at") h.d
  rw [st_at] at q
  exact q
theorem Stt.gL (h : Stt K H ds sc tp script tops p l) : DGet H ds (.str "left") (some (.int l)) := by
  have q := DGet.k (k := Sum.inr "left") h.d
  rw [st_left] at q
  exact q
theorem Stt.gT (h : Stt K H ds sc tp script tops p l) : DGet H ds (.str "tops") (some (.ref tp)) := by
  have q := DGet.k (k := Sum.inr "tops") h.d
  rw [st_tops] at q
  exact q
theorem stLine : (stK sc tp p l).length < sizeLine := by
  show 4 < sizeLine
  decide
theorem Stt.pA (h : Stt K H ds sc tp script tops p l) (z : Int) : DPut H ds (.str "at") (.int z) (upd H ds (.dK (stK sc tp z l))) := by
  have q := DPut.k (k := Sum.inr "at") (v := .int z) h.d stLine
  rw [put_at_] at q
  exact q
theorem Stt.pL (h : Stt K H ds sc tp script tops p l) (z : Int) : DPut H ds (.str "left") (.int z) (upd H ds (.dK (stK sc tp p z))) := by
  have q := DPut.k (k := Sum.inr "left") (v := .int z) h.d stLine
  rw [put_left_] at q
  exact q
theorem butUpd {o : HO} : But ds H (upd H ds o) := fun b u n h => by rw [upd_ne n]; exact h
theorem Stt.to (h : Stt K H ds sc tp script tops p l) {p' l' : Int} (e : But ds H H') (hd : H' ds = some (.dK (stK sc tp p' l'))) : Stt K H' ds sc tp script tops p' l' := ⟨hd, butSeq e h.d h.s, h.s63, butSeq e h.d h.t, h.w⟩
theorem Stt.setA (h : Stt K H ds sc tp script tops p l) (z : Int) : Stt K (upd H ds (.dK (stK sc tp z l))) ds sc tp script tops z l := h.to butUpd upd_same
theorem Stt.setL (h : Stt K H ds sc tp script tops p l) (z : Int) : Stt K (upd H ds (.dK (stK sc tp p z))) ds sc tp script tops p z := h.to butUpd upd_same
theorem Stt.same (h : Stt K H ds sc tp script tops p l) (e : Same H H') : Stt K H' ds sc tp script tops p l := h.to (butOf e) (e _ _ h.d)
end

theorem pures_of {ds : List D} (h : ∀ d ∈ ds, d.pure = true) : D.pures ds = true := by
  induction ds with
  | nil => rfl
  | cons d r ih =>
    simp only [D.pures, Bool.and_eq_true]
    exact ⟨h d (List.mem_cons_self ..), ih fun x hx => h x (List.mem_cons_of_mem _ hx)⟩
theorem orB {t u : TT} {σ : L2.St} {H : Hp} {Q : Bool → Hp → Prop} (b1 b2 : Bool) (h1 : ∀ R : Bool → Hp → Prop, R b1 H → t σ H R) (h2 : ∀ R : Bool → Hp → Prop, R b2 H → u σ H R) (q : Q (b1 || b2) H) : tOr t u σ H Q := h1 _ (by
  cases b1 with
  | true => exact iteT q
  | false => exact iteF (h2 _ q))
theorem andB {t u : TT} {σ : L2.St} {H : Hp} {Q : Bool → Hp → Prop} (b1 b2 : Bool) (h1 : ∀ R : Bool → Hp → Prop, R b1 H → t σ H R) (h2 : ∀ R : Bool → Hp → Prop, R b2 H → u σ H R) (q : Q (b1 && b2) H) : tAnd t u σ H Q := h1 _ (by
  cases b1 with
  | true => exact iteT (h2 _ q)
  | false => exact iteF q)
theorem catUse {K : PySem.W.Frag} {H : Hp} {Q : VK} {a b : Addr} {xs ys : List V} (ha : SqT K H a xs) (hb : SqT K H b ys) (hl : xs.length + ys.length ≤ 100000) (q : ∀ (r : Addr) (H' : Hp), Same H H' → SqT K H' r (xs ++ ys) → Q (.ref r) H') : rCatA K (.ref a) (.ref b) H Q := by
  refine ⟨a, b, xs, ys, rfl, rfl, ha, hb, Nat.le_trans hl (by decide), fun e => ?_, fun _ e => ?_, fun _ _ p np => ?_⟩
  · refine q b H (Same.refl _) ?_
    rw [e]
    exact hb
  · refine q a H (Same.refl _) ?_
    rw [e, List.append_nil]
    exact ha
  · exact q p _ (sameNew np) (.of upd_same)
end LW

namespace LW
open PySem PySem.Spec PyProof.Rows L2
/-! ### the rows of a program, in their order -/
def rowsOf : D → List D
  | .tup rs => rs
  | _ => []
abbrev Pd := List Nat × D
def plRow (f : List D → List Nat → List Pd) (place : List Nat) (d : D) : List Pd := (place, d) :: (inner d).zipIdx.flatMap fun q => f (rowsOf q.1) (place ++ [q.2])
def plD : Nat → List D → List Nat → List Pd
  | 0, _, _ => []
  | r + 1, rows, ahead => rows.zipIdx.flatMap fun q => plRow (plD r) (ahead ++ [q.2]) q.1
theorem flatTake {β : Type} {rows : List D} {f : D × Nat → List β} {i : Nat} {d : D} (e : rows[i]? = some d) : (rows.take (i + 1)).zipIdx.flatMap f = (rows.take i).zipIdx.flatMap f ++ f (d, i) := by
  obtain ⟨hi, e1⟩ := List.getElem?_eq_some_iff.mp e
  subst e1
  rw [List.take_succ_eq_append_getElem hi, List.zipIdx_append, List.flatMap_append]
  simp [Nat.min_eq_left (Nat.le_of_lt hi)]
theorem zipSum (f : D → Nat) : ∀ (l : List D) (n : Nat), ((l.zipIdx n).map fun q => f q.1).sum = (l.map f).sum
  | [], _ => rfl
  | x :: r, n => by simp [List.zipIdx_cons, zipSum f r (n + 1)]
theorem plLen : ∀ (r : Nat) (rows : List D) (ahead : List Nat), (plD r rows ahead).length = cnt r (.tup rows)
  | 0, _, _ => by simp [plD, cnt]
  | r + 1, rows, ahead => by
    have h : ∀ (x : D) (pl : List Nat), (plD r (rowsOf x) pl).length = cnt r x := by
      intro x pl
      cases x with
      | tup rs => exact plLen r rs pl
      | _ => rw [plLen r]; cases r <;> simp [rowsOf, cnt]
    simp only [plD, cnt, List.length_flatMap, plRow, List.length_cons, h]
    rw [show (rows.zipIdx.map fun a => (((inner a.1).zipIdx.map fun q => cnt r q.1).sum + 1)) = rows.zipIdx.map fun a => (fun d => 1 + ((inner d).map (cnt r)).sum) a.1 from List.map_congr_left fun a _ => by
      rw [zipSum (cnt r), Nat.add_comm]]
    exact zipSum (fun d => 1 + ((inner d).map (cnt r)).sum) rows 0
/-- a row that is well, in its four kinds -/
theorem rowKinds {many : Nat} {d : D} (h : rowOk many d = true) : (∃ b s, d = .tup [.str "put", b, s]) ∨ (∃ w, d = .tup [.str "say", w]) ∨ (∃ w a b, d = .tup [.str "if", w, a, b]) ∨ ∃ w ws b, d = .tup [.str "loop", w, ws, b] := by
  unfold rowOk at h
  split at h
  · rename_i k rest
    unfold restOk at h
    split at h
    · rename_i e
      subst e
      split at h
      · exact .inl ⟨_, _, rfl⟩
      · cases h
    · split at h
      · rename_i e
        subst e
        split at h
        · exact .inr (.inl ⟨_, rfl⟩)
        · cases h
      · split at h
        · rename_i e
          subst e
          split at h
          · exact .inr (.inr (.inl ⟨_, _, _, rfl⟩))
          · cases h
        · split at h
          · rename_i e
            subst e
            split at h
            · exact .inr (.inr (.inr ⟨_, _, _, rfl⟩))
            · cases h
          · cases h
  · cases h
theorem kinds : ("put" : Str) ≠ "if" ∧ ("put" : Str) ≠ "loop" ∧ ("say" : Str) ≠ "if" ∧ ("say" : Str) ≠ "loop" ∧ ("loop" : Str) ≠ "if" ∧ ("if" : Str) ≠ "loop" ∧ ("put" : Str) ≠ "say" := by decide +kernel
theorem in_put {b s : D} : inner (.tup [.str "put", b, s]) = [] := by simp [inner, kinds]
theorem in_say {s : D} : inner (.tup [.str "say", s]) = [] := by simp [inner, kinds]
theorem in_if {s a b : D} : inner (.tup [.str "if", s, a, b]) = [a, b] := by simp [inner]
theorem in_loop {s ws b : D} : inner (.tup [.str "loop", s, ws, b]) = [b] := by simp [inner, kinds]
theorem purePart {ds : List D} (h : D.pures ds = true) {d : D} (m : d ∈ ds) : d.pure = true := by
  induction ds with
  | nil => cases m
  | cons x r ih =>
    simp only [D.pures, Bool.and_eq_true] at h
    rcases List.mem_cons.mp m with e | m
    · exact e ▸ h.1
    · exact ih h.2 m
theorem goodInv {many r : Nat} {x : D} (h : good many r x = true) (p : x.pure = true) : ∃ r' rs, r = r' + 1 ∧ x = .tup rs ∧ ∀ d ∈ rs, GRow many r' d := by
  cases r with
  | zero => simp [good] at h
  | succ r =>
    cases x with
    | tup rs =>
      simp only [good, List.all_eq_true, Bool.and_eq_true] at h
      exact ⟨r, rs, rfl, rfl, fun d hd => ⟨(h d hd).1, purePart p hd, by rw [List.all_eq_true]; exact (h d hd).2⟩⟩
    | _ => simp [good] at h
/-- a row of a drawing, in its four kinds, with what is within -/
theorem gKinds {many r : Nat} {d : D} (h : GRow many r d) : (∃ b s, d = .tup [.str "put", b, s]) ∨ (∃ w, d = .tup [.str "say", w]) ∨
    (∃ r' w a b, r = r' + 1 ∧ d = .tup [.str "if", w, .tup a, .tup b] ∧ (∀ x ∈ a, GRow many r' x) ∧ ∀ x ∈ b, GRow many r' x) ∨ ∃ r' w ws b, r = r' + 1 ∧ d = .tup [.str "loop", w, ws, .tup b] ∧ ∀ x ∈ b, GRow many r' x := by
  obtain ⟨h1, h2, h3⟩ := h
  rcases rowKinds h1 with ⟨b, s, rfl⟩ | ⟨w, rfl⟩ | ⟨w, a, b, rfl⟩ | ⟨w, ws, b, rfl⟩
  · exact .inl ⟨b, s, rfl⟩
  · exact .inr (.inl ⟨w, rfl⟩)
  · rw [in_if] at h3
    simp only [List.all_cons, List.all_nil, Bool.and_true, Bool.and_eq_true] at h3
    have pa : a.pure = true := purePart (ds := [.str "if", w, a, b]) h2 (by simp)
    have pb : b.pure = true := purePart (ds := [.str "if", w, a, b]) h2 (by simp)
    obtain ⟨r', as, e1, rfl, ga⟩ := goodInv h3.1 pa
    obtain ⟨r2, bs, e2, rfl, gb⟩ := goodInv h3.2 pb
    have : r2 = r' := by omega
    subst this
    exact .inr (.inr (.inl ⟨_, w, as, bs, e1, rfl, ga, gb⟩))
  · rw [in_loop] at h3
    simp only [List.all_cons, List.all_nil, Bool.and_true] at h3
    have pb : b.pure = true := purePart (ds := [.str "loop", w, ws, b]) h2 (by simp)
    obtain ⟨r', bs, e1, rfl, gb⟩ := goodInv h3 pb
    exact .inr (.inr (.inr ⟨_, w, ws, bs, e1, rfl, gb⟩))
theorem cntMem {r : Nat} {rows : List D} {d : D} (m : d ∈ rows) : cntRow r d ≤ cnt (r + 1) (.tup rows) := by
  rw [cnt_tup]
  induction rows with
  | nil => cases m
  | cons x t ih =>
    rw [List.map_cons, List.sum_cons]
    rcases List.mem_cons.mp m with e | m
    · subst e; omega
    · have := ih m; omega
theorem cntTake {r : Nat} {rows : List D} {j : Nat} : cnt (r + 1) (.tup (rows.take j)) ≤ cnt (r + 1) (.tup rows) := by
  rw [cnt_tup, cnt_tup]
  induction rows generalizing j with
  | nil => simp
  | cons x t ih =>
    cases j with
    | zero => simp
    | succ j =>
      rw [List.take_succ_cons, List.map_cons, List.sum_cons, List.map_cons, List.sum_cons]
      have := ih (j := j)
      omega
theorem plTake {r : Nat} {rows : List D} {ahead : List Nat} {j : Nat} {d : D} (e : rows[j]? = some d) : plD (r + 1) (rows.take (j + 1)) ahead = plD (r + 1) (rows.take j) ahead ++ plRow (plD r) (ahead ++ [j]) d := flatTake e
theorem plR_put {f : List D → List Nat → List Pd} {place : List Nat} {b s : D} : plRow f place (.tup [.str "put", b, s]) = [(place, .tup [.str "put", b, s])] := by simp [plRow, in_put]
theorem plR_say {f : List D → List Nat → List Pd} {place : List Nat} {s : D} : plRow f place (.tup [.str "say", s]) = [(place, .tup [.str "say", s])] := by simp [plRow, in_say]
theorem plR_if {f : List D → List Nat → List Pd} {place : List Nat} {s : D} {a b : List D} : plRow f place (.tup [.str "if", s, .tup a, .tup b]) = (place, .tup [.str "if", s, .tup a, .tup b]) :: (f a (place ++ [0]) ++ f b (place ++ [1])) := by simp [plRow, in_if, List.zipIdx_cons, rowsOf]
theorem plR_loop {f : List D → List Nat → List Pd} {place : List Nat} {s ws : D} {b : List D} : plRow f place (.tup [.str "loop", s, ws, .tup b]) = (place, .tup [.str "loop", s, ws, .tup b]) :: f b (place ++ [0]) := by simp [plRow, in_loop, List.zipIdx_cons, rowsOf]
/-! ### a list of places and rows -/
def nats (p : List Nat) : List V := p.map fun n => V.int (n : Nat)
def PlIn (K : PySem.W.Frag) (H : Hp) (v : V) (p : Pd) : Prop := ∃ t pa rv, v = .ref t ∧ SqT K H t [.ref pa, rv] ∧ SqT K H pa (nats p.1) ∧ Din K H rv p.2
inductive A2 {α β : Type} (R : α → β → Prop) : List α → List β → Prop
  | nil : A2 R [] []
  | cons {a : α} {b : β} {as : List α} {bs : List β} (h : R a b) (t : A2 R as bs) : A2 R (a :: as) (b :: bs)
section
variable {α β : Type} {R S : α → β → Prop}
theorem A2.app : ∀ {a c : List α} {b d : List β}, A2 R a b → A2 R c d → A2 R (a ++ c) (b ++ d)
  | _, _, _, _, .nil, h => h
  | _, _, _, _, .cons r t, h => .cons r (A2.app t h)
theorem A2.len : ∀ {a : List α} {b : List β}, A2 R a b → a.length = b.length
  | _, _, .nil => rfl
  | _, _, .cons _ t => by rw [List.length_cons, List.length_cons, A2.len t]
theorem A2.map {B' : List β} (f : ∀ a b, b ∈ B' → R a b → S a b) : ∀ {a : List α} {b : List β}, (∀ x ∈ b, x ∈ B') → A2 R a b → A2 S a b
  | _, _, _, .nil => .nil
  | _, _, m, .cons r t => .cons (f _ _ (m _ List.mem_cons_self) r) (A2.map f (fun x hx => m x (List.mem_cons_of_mem _ hx)) t)
theorem A2.at : ∀ {a : List α} {b : List β} {i : Nat} {x : α}, A2 R a b → a[i]? = some x → ∃ y, b[i]? = some y ∧ R x y
  | _, _, _, _, .nil, e => by simp at e
  | _, _, 0, _, .cons h _, e => by
    simp at e
    subst e
    exact ⟨_, rfl, h⟩
  | _, _, i + 1, v, .cons _ t, e => by
    obtain ⟨d, h1, h2⟩ := A2.at (i := i) t (by simpa using e)
    exact ⟨d, by simpa using h1, h2⟩
theorem A2.atR : ∀ {a : List α} {b : List β} {i : Nat} {y : β}, A2 R a b → b[i]? = some y → ∃ x, a[i]? = some x ∧ R x y
  | _, _, _, _, .nil, e => by simp at e
  | _, _, 0, _, .cons h _, e => by
    simp at e
    subst e
    exact ⟨_, rfl, h⟩
  | _, _, i + 1, v, .cons _ t, e => by
    obtain ⟨d, h1, h2⟩ := A2.atR (i := i) t (by simpa using e)
    exact ⟨d, by simpa using h1, h2⟩
end
def PlL (K : PySem.W.Frag) (H : Hp) (vs : List V) (ps : List Pd) : Prop := A2 (PlIn K H) vs ps
theorem plTS {K : PySem.W.Frag} {H H' : Hp} {vs : List V} {ps : List Pd} (e : TS H H') (hp : ∀ p ∈ ps, p.2.pure = true) (h : PlL K H vs ps) : PlL K H' vs ps :=
  A2.map (B' := ps) (fun v p m ⟨t, pa, rv, e0, h1, h2, h3⟩ => ⟨t, pa, rv, e0, tsTup e h1, tsTup e h2, dinTS e (hp p m) h3⟩) (fun _ m => m) h
theorem plPure {many : Nat} : ∀ (r : Nat) (rows : List D) (ahead : List Nat), (∀ d ∈ rows, ∃ r', GRow many r' d) → ∀ p ∈ plD r rows ahead, p.2.pure = true ∧ ∃ r', GRow many r' p.2
  | 0, _, _, _, p, m => by cases m
  | r + 1, rows, ahead, h, p, m => by
    rw [plD, List.mem_flatMap] at m
    obtain ⟨⟨d, i⟩, hm, m⟩ := m
    have hd : d ∈ rows := by
      have := List.mem_zipIdx hm
      simp at this
      rw [this.2]
      exact List.getElem_mem _
    obtain ⟨r', g⟩ := h d hd
    rcases List.mem_cons.mp m with e | m
    · subst e
      exact ⟨g.2.1, r', g⟩
    · rw [List.mem_flatMap] at m
      obtain ⟨⟨x, j⟩, hx, m⟩ := m
      have hxi : x ∈ inner d := by
        have := List.mem_zipIdx hx
        simp at this
        rw [this.2]
        exact List.getElem_mem _
      refine plPure r (rowsOf x) _ (fun y hy => ?_) p m
      rcases gKinds g with ⟨b, s, rfl⟩ | ⟨w, rfl⟩ | ⟨r2, w, a, b, rfl, rfl, ga, gb⟩ | ⟨r2, w, ws, b, rfl, rfl, gb⟩
      · rw [in_put] at hxi; cases hxi
      · rw [in_say] at hxi; cases hxi
      · rw [in_if] at hxi
        rcases List.mem_cons.mp hxi with e | e
        · subst e; exact ⟨_, ga y hy⟩
        · rw [List.mem_singleton.mp e] at hy; exact ⟨_, gb y hy⟩
      · rw [in_loop] at hxi
        rw [List.mem_singleton.mp hxi] at hy
        exact ⟨_, gb y hy⟩
end LW
namespace LW
open PySem PySem.Spec PyProof.Rows L2
/-! ### the row at a place -/
def look1 : D → List Nat → Option D
  | d, [] => some d
  | _, [_] => none
  | d, w :: n :: rest => ((inner d)[w]?).bind fun x => ((rowsOf x)[n]?).bind fun d' => look1 d' rest
def lookR (rows : List D) : List Nat → Option D
  | [] => none
  | n :: rest => (rows[n]?).bind fun d => look1 d rest
theorem plLook : ∀ (r : Nat) (rows : List D) (ahead : List Nat) (p : Pd), p ∈ plD r rows ahead → ∃ rest, p.1 = ahead ++ rest ∧ lookR rows rest = some p.2 ∧ rest.length + 1 ≤ 2 * r
  | 0, _, _, p, m => by cases m
  | r + 1, rows, ahead, p, m => by
    rw [plD, List.mem_flatMap] at m
    obtain ⟨⟨d, n⟩, hm, m⟩ := m
    have hd : rows[n]? = some d := by
      have := List.mem_zipIdx hm
      simp at this
      exact (List.getElem?_eq_getElem this.1).trans (congrArg some this.2.symm)
    rcases List.mem_cons.mp m with e | m
    · subst e
      exact ⟨[n], rfl, by simp [lookR, hd, look1], by simp; omega⟩
    · rw [List.mem_flatMap] at m
      obtain ⟨⟨x, w⟩, hx, m⟩ := m
      have hxi : (inner d)[w]? = some x := by
        have := List.mem_zipIdx hx
        simp at this
        exact (List.getElem?_eq_getElem this.1).trans (congrArg some this.2.symm)
      obtain ⟨rest, e1, e2, e3⟩ := plLook r (rowsOf x) _ p m
      cases rest with
      | nil => cases e2
      | cons k rest =>
        refine ⟨n :: w :: k :: rest, by rw [e1]; simp, ?_, by simp at e3 ⊢; omega⟩
        simp only [lookR, hd, Option.bind_some, look1, hxi] at e2 ⊢
        exact e2
/-- no row of any program -/
def Bad (many : Nat) (d : D) : Prop := ∀ r, (rowOk many d && (inner d).all (good many r)) = false
theorem badNot {many : Nat} {d : D} (h : rowOk many d = false) : Bad many d := fun r => by rw [h]; rfl
theorem badIn {many : Nat} {d x : D} (m : x ∈ inner d) (h : ∀ r, good many r x = false) : Bad many d := fun r => by
  rw [Bool.and_eq_false_iff]
  refine .inr (Bool.eq_false_iff.mpr fun z => ?_)
  rw [List.all_eq_true] at z
  have := z x m
  rw [h r] at this
  cases this
theorem badRows {many : Nat} {ds : List D} {d : D} (m : d ∈ ds) (h : Bad many d) : ∀ r, good many r (.tup ds) = false := fun r => by
  cases r with
  | zero => rfl
  | succ r =>
    refine Bool.eq_false_iff.mpr fun z => ?_
    simp only [good, List.all_eq_true] at z
    have := z d m
    rw [h r] at this
    cases this
theorem slUse {K : PySem.W.Frag} {H : Hp} {Q : VK} {a : Addr} {xs : List V} {lo hi : Option Int} (h : SqT K H a xs) (q : ∀ (r : Addr) (H' : Hp), Same H H' → SqT K H' r (cutV xs lo hi) → Q (.ref r) H') : rSlA K (.ref a) lo hi H Q := by
  refine ⟨a, xs, rfl, h, fun e => q a H (Same.refl _) ?_, fun _ p np => q p _ (sameNew np) (.of upd_same)⟩
  unfold cutV
  rw [e.1, e.2, List.drop_zero, Nat.sub_zero, List.take_length]
  exact h
theorem slUseN {K : PySem.W.Frag} {H : Hp} {σ : L2.St} {Q : VK} {a : Addr} {xs : List V} {lo : Option Int} (h : SqT K H a xs) (q : ∀ (r : Addr) (H' : Hp), Same H H' → SqT K H' r (cutV xs lo none) → Q (.ref r) H') : tNoPart σ H fun u H3 => rSlA K (.ref a) lo u H3 Q := slUse h q
theorem cutTake {xs : List V} (n : Nat) : cutV xs none (some (n : Int)) = xs.take n := by
  unfold cutV
  rw [HT.sIx_none, HT.sIx_nat, List.drop_zero, Nat.sub_zero]
  rcases Nat.le_total n xs.length with h | h
  · rw [Nat.min_eq_left h]
  · rw [Nat.min_eq_right h, List.take_length, List.take_of_length_le h]
theorem cutDrop {xs : List V} (n : Nat) : cutV xs (some (n : Int)) none = xs.drop n := by
  unfold cutV
  rw [HT.sIx_none, HT.sIx_nat]
  rcases Nat.le_total n xs.length with h | h
  · rw [Nat.min_eq_left h, List.take_of_length_le (by simp)]
  · rw [Nat.min_eq_right h, Nat.sub_self, List.take_zero, List.drop_eq_nil_of_le h]
/-! data stands while a list is changed -/
section
variable {K : PySem.W.Frag} {H : Hp} {L : Addr} {xs ys : List V}
mutual
theorem dinMut (e : H L = some (.lst xs)) : ∀ {d : D} {v : V}, Din K H v d → Din K (upd H L (.lst ys)) v d
  | .non, _, .non => .non
  | .bl _, _, .bl b => .bl b
  | .int _, _, .int i => .int i
  | .str _, _, .str s => .str s
  | .lst, _, .lst (a := a) h => by
    by_cases z : a = L
    · subst z
      exact .lst (.of upd_same)
    · rcases h with (h | ⟨o, h⟩) | h
      · exact .lst (.inl (.inl (by rw [upd_ne z]; exact h)))
      · exact .lst (.inl (.inr ⟨o, by rw [upd_ne z]; exact h⟩))
      · exact .lst (.inr h)
  | .dct, _, .dct (a := a) h => .dct (by rw [upd_ne (fun z => by rw [z, e] at h; cases h)]; exact h)
  | .tup ds, _, .tup h t => .tup (tsTup (tsLst e) h) (dinAMut e t)
theorem dinAMut (e : H L = some (.lst xs)) : ∀ {ds : List D} {vs : List V}, DinA K H vs ds → DinA K (upd H L (.lst ys)) vs ds
  | [], _, .nil => .nil
  | _ :: _, _, .cons h t => .cons (dinMut e h) (dinAMut e t)
end
end
theorem natsAt {p : List Nat} {j n : Nat} (h : p[j]? = some n) : (nats p)[j]? = some (.int (n : Int)) := by simp [nats, h]
end LW

namespace LW
open PySem PySem.Spec PyProof.Rows L2
theorem tuple_mul1 (l : Addr) (items : Array Value) (n : Nat) (dd : Option Addr) (sl : Array (Option Value)) (x : Int) (u : Tok) (c0 : (decide (x < -(2 ^ 63)) || decide (x ≥ 2 ^ 63)) = false) (c1 : (items.isEmpty || x == 1) = true) :
    Meets (Builtin.«tuple.__mul__» ⟨[.ref l, .int x u], []⟩) (fun _ R s => s.heap.get? l = some { cls := .type "tuple", dict := dd, data := .seq items n, slots := sl } ∧
      R (.ok (.ret (Value.ref l))) s) :=
  .of_wp fun prog w A R s h => by
    obtain ⟨hp, g, d, tk, os⟩ := s
    obtain ⟨hl, h⟩ := h
    have f1 := AutoSeq1.idx_int
    wp_walk using wpAny_loadPart' hl
    repeat (first
      | (refine wpAny_ite_false (decide_eq_false (by rw [c0]; exact Bool.false_ne_true)) ?_; wp_walk using wpAny_loadPart' hl)
      | (refine wpAny_ite_true (decide_eq_true (by rw [c1])) ?_; wp_walk using wpAny_loadPart' hl))
    exact ⟨_, rfl, h⟩
def rRepA (K : PySem.W.Frag) : R2 := fun x y H Q => ∃ l k xs, x = .ref l ∧ y = .int k ∧ SqT K H l xs ∧ xs ≠ [] ∧ 1 ≤ k ∧ k ≤ 1000 ∧ xs.length ≤ 1000 ∧ (k = 1 → Q (.ref l) H) ∧ (2 ≤ k → ∀ p, H p = none → Q (.ref p) (upd H p (.tup (List.replicate k.toNat xs).flatten)))
theorem op_repA {X : Cx} : OpR X (binaryOp .Mult) (rRepA X.K) := by
  intro pins s σ H x y v u Q I rx ry h
  obtain ⟨l, k, xs, rfl, rfl, hT, hne, h1, h2, hz, q1, q2⟩ := h
  by_cases hk : k = 1
  · subst hk
    have hT0 := hT
    have rx0 := rx
    cases rx
    obtain ⟨t, rfl⟩ := ry
    obtain ⟨its, r, ⟨⟨cls, dd, data, sl⟩, ho, hc, n, hd⟩, hs⟩ := I.tuple hT
    simp only at hc hd
    subst hc hd
    refine wpAny_binaryOp_repeat_ref (T := "tuple") (U := "int") (by decide) ⟨_, ho, rfl⟩ (fun s' => typeIs_int s' 1 t) noFill_tuple_mul F.fills_int_mul F.slot_int_rmul repeat_tuple F.slot_int_index.lookup
      (call_meets F.slot_int_rmul (typeIs_int s 1 t) F.entry_int_rmul (F.args_int_rmul_2 _ _) (int_rmul_tuple 1 t l its.toArray n dd sl)
        ⟨ho, rfl, ⟨_, ho, rfl⟩, call_meets F.slot_tuple_mul ⟨_, ho, rfl⟩ F.entry_tuple_mul (F.args_tuple_mul_2 _ _) (tuple_mul1 l its.toArray n dd sl 1 t (by decide) (by rw [Bool.or_eq_true]; exact .inr rfl)) ⟨ho, ?_⟩⟩)
    exact ⟨.ref l, H, I, rfl, q1 rfl⟩
  · exact op_repT pins s σ H (.ref l) (.int k) v u Q I rx ry ⟨l, k, xs, rfl, rfl, hT, hne, by omega, h2, hz, q2 (by omega)⟩
theorem kRepA {X : Cx} {K : PySem.W.Frag} (h : X.K = K) : OpR X (binaryOp .Mult) (rRepA K) := by subst h; exact op_repA
theorem repUse {K : PySem.W.Frag} {H : Hp} {Q : VK} {a : Addr} {v : V} {n : Nat} (h : SqT K H a [v]) (h1 : 1 ≤ n) (h2 : n ≤ 1000) (q : ∀ (r : Addr) (H' : Hp), Same H H' → SqT K H' r (List.replicate n v) → Q (.ref r) H') : rRepA K (.ref a) (.int (n : Int)) H Q := by
  refine ⟨a, n, [v], rfl, rfl, h, by simp, by omega, by omega, by simp, fun e => ?_, fun e p np => ?_⟩
  · have : n = 1 := by omega
    subst this
    exact q a H (Same.refl _) h
  · refine q p _ (sameNew np) (.of ?_)
    rw [upd_same, show ((n : Int)).toNat = n by omega]
    simp
theorem repUseC {K : PySem.W.Frag} {H : Hp} {σ : L2.St} {Q : VK} {a : Addr} {v : V} {n : Nat} (h : SqT K H a [v]) (h1 : 1 ≤ n) (h2 : n ≤ 1000) (q : ∀ (r : Addr) (H' : Hp), Same H H' → SqT K H' r (List.replicate n v) → Q (.ref r) H') : tC (.int (n : Int)) σ H fun y H3 => rRepA K (.ref a) y H3 Q := repUse h h1 h2 q
end LW

namespace LW
open PySem PySem.Spec PyProof.Rows L2
/-! ### data to compare -/
mutual
def toPy : D → PyData
  | .non => .none
  | .bl b => .bool b
  | .int i => .int i
  | .str s => .str s
  | .lst => .none
  | .dct => .none
  | .tup ds => .tuple (toPys ds)
def toPys : List D → List PyData
  | [] => []
  | d :: r => toPy d :: toPys r
end
section
variable {K : PySem.W.Frag} {H : Hp}
mutual
theorem dpD : ∀ {d : D} {v : V}, d.pure = true → Din K H v d → Dp K H v (toPy d)
  | .non, _, _, .non => .non
  | .bl _, _, _, .bl b => .bl b
  | .int _, _, _, .int i => .int i
  | .str _, _, _, .str s => .str s
  | .lst, _, p, _ => by simp [D.pure] at p
  | .dct, _, p, _ => by simp [D.pure] at p
  | .tup ds, _, p, .tup h t => .tup h (dpDA (by simpa [D.pure] using p) t)
theorem dpDA : ∀ {ds : List D} {vs : List V}, D.pures ds = true → DinA K H vs ds → DpAll K H vs (toPys ds)
  | [], _, _, .nil => .nil
  | _ :: _, _, p, .cons h t => by
    simp only [D.pures, Bool.and_eq_true] at p
    exact .cons (dpD p.1 h) (dpDA p.2 t)
end
end
theorem toPys_map : ∀ ds : List D, toPys ds = ds.map toPy
  | [] => rfl
  | d :: r => by rw [toPys, toPys_map r]; rfl
theorem toPy_sum (s : Sm) : toPy (dSm s) = dS s := by
  have key : ∀ ns : List Int, toPys (ns.map D.int) = dI ns := by
    intro ns
    induction ns with
    | nil => rfl
    | cons n r ih =>
      rw [List.map_cons, toPys, ih]
      rfl
  simp [dSm, toPy, toPys, key, dS]
theorem numInv {d : D} {lo hi : Int} (h : fromTo d lo hi = true) : ∃ i, d = .int i ∧ lo ≤ i ∧ i ≤ hi := by
  unfold fromTo at h
  split at h
  · simp only [Bool.and_eq_true, decide_eq_true_eq] at h
    exact ⟨_, rfl, h.1, h.2⟩
  · cases h
theorem sumInv {many : Nat} {d : D} (h : sumOk many d = true) : ∃ sm, d = dSm sm ∧ SumW many sm := by
  unfold sumOk at h
  split at h
  · rename_i ns l
    simp only [Bool.and_eq_true, decide_eq_true_eq, List.all_eq_true] at h
    obtain ⟨⟨h1, h2⟩, h3⟩ := h
    obtain ⟨i, rfl, l1, l2⟩ := numInv h3
    have key : ∀ ns : List D, (∀ x ∈ ns, fromTo x (-9) 9 = true) → ∃ ks : List Int, ns = ks.map D.int ∧ ∀ k ∈ ks, -9 ≤ k ∧ k ≤ 9 := by
      intro ns
      induction ns with
      | nil => exact fun _ => ⟨[], rfl, fun k hk => by cases hk⟩
      | cons x t ih =>
        intro hx
        obtain ⟨k, rfl, k1, k2⟩ := numInv (hx x List.mem_cons_self)
        obtain ⟨ks, rfl, hks⟩ := ih fun y hy => hx y (List.mem_cons_of_mem _ hy)
        refine ⟨k :: ks, rfl, fun z hz => ?_⟩
        rcases List.mem_cons.mp hz with rfl | hz
        · exact ⟨k1, k2⟩
        · exact hks z hz
    obtain ⟨ks, rfl, hks⟩ := key ns h2
    exact ⟨(ks, i), rfl, by simpa using h1, hks, l1, l2⟩
  · cases h
theorem lyStr {s : Str} (h : (PyData.str s).canLay0 = true) : Ly 1 (.str s) := ⟨h, by simp [PyData.depth]⟩
theorem lyKinds : (PyData.str "put").canLay0 = true ∧ (PyData.str "say").canLay0 = true ∧ (PyData.str "if").canLay0 = true ∧ (PyData.str "loop").canLay0 = true := by decide +kernel
theorem lyAll {n : Nat} : ∀ {ds : List PyData}, (∀ d ∈ ds, Ly n d) → LyA n ds
  | [], _ => lyNil n
  | d :: r, h => lyCons (h d List.mem_cons_self) (lyAll fun x hx => h x (List.mem_cons_of_mem _ hx))
theorem rowKinds' {many : Nat} {d : D} (h : rowOk many d = true) : (∃ (i : Int) (s : Sm), d = .tup [.str "put", .int i, dSm s] ∧ 0 ≤ i ∧ i ≤ (many : Int) - 1 ∧ SumW many s) ∨ (∃ s : Sm, d = .tup [.str "say", dSm s] ∧ SumW many s) ∨
    (∃ (s : Sm) (a b : D), d = .tup [.str "if", dSm s, a, b] ∧ SumW many s) ∨ ∃ (s : Sm) (wl : List Sm) (b : D), d = .tup [.str "loop", dSm s, .tup (wl.map dSm), b] ∧ SumW many s ∧ (∀ w ∈ wl, SumW many w) ∧ wl.length ≤ 3 := by
  have kd : ("put" : Str) ≠ "if" ∧ ("put" : Str) ≠ "loop" ∧ ("say" : Str) ≠ "if" ∧ ("say" : Str) ≠ "loop" ∧ ("loop" : Str) ≠ "if" ∧ ("if" : Str) ≠ "loop" ∧ ("say" : Str) ≠ "put" ∧ ("if" : Str) ≠ "put" ∧ ("loop" : Str) ≠ "put" ∧ ("if" : Str) ≠ "say" ∧ ("loop" : Str) ≠ "say" := by decide +kernel
  rcases rowKinds h with ⟨b, s, rfl⟩ | ⟨w, rfl⟩ | ⟨w, a, b, rfl⟩ | ⟨w, ws, b, rfl⟩
  · simp only [rowOk, restOk, if_true, Bool.and_eq_true] at h
    obtain ⟨i, rfl, i0, i1⟩ := numInv h.1
    obtain ⟨sm, rfl, hw⟩ := sumInv h.2
    exact .inl ⟨i, sm, rfl, i0, i1, hw⟩
  · have h : sumOk many w = true := by simpa [rowOk, restOk, kd] using h
    obtain ⟨sm, rfl, hw⟩ := sumInv h
    exact .inr (.inl ⟨sm, rfl, hw⟩)
  · have h : sumOk many w = true := by simpa [rowOk, restOk, kd] using h
    obtain ⟨sm, rfl, hw⟩ := sumInv h
    exact .inr (.inr (.inl ⟨sm, a, b, rfl, hw⟩))
  · have h : sumOk many w = true ∧ wordsOk many ws = true := by simpa [rowOk, restOk, kd] using h
    obtain ⟨sm, rfl, hw⟩ := sumInv h.1
    have h2 := h.2
    cases ws with
    | tup l =>
      unfold wordsOk at h2
      simp only [Bool.and_eq_true, decide_eq_true_eq, List.all_eq_true] at h2
      have key : ∀ l : List D, (∀ x ∈ l, sumOk many x = true) → ∃ wl : List Sm, l = wl.map dSm ∧ ∀ w ∈ wl, SumW many w := by
        intro l
        induction l with
        | nil => exact fun _ => ⟨[], rfl, fun k hk => by cases hk⟩
        | cons x t ih =>
          intro hx
          obtain ⟨k, rfl, k1⟩ := sumInv (hx x List.mem_cons_self)
          obtain ⟨ks, rfl, hks⟩ := ih fun y hy => hx y (List.mem_cons_of_mem _ hy)
          refine ⟨k :: ks, rfl, fun z hz => ?_⟩
          rcases List.mem_cons.mp hz with rfl | hz
          · exact k1
          · exact hks z hz
      obtain ⟨wl, rfl, hwl⟩ := key l h2.2
      exact .inr (.inr (.inr ⟨sm, wl, b, rfl, hw, hwl, by simpa using h2.1⟩))
    | _ => cases h2
theorem lySum' (s : Sm) : Ly 3 (toPy (dSm s)) := by rw [toPy_sum]; exact lySum s
theorem lyRow {many : Nat} : ∀ (r : Nat) {d : D}, GRow many r d → Ly (5 + 2 * r) (toPy d) := by
  intro r
  induction r with
  | zero =>
    intro d g
    rcases gKinds g with ⟨b, s, e⟩ | ⟨w, e⟩ | ⟨r', w, a, b, e, _⟩ | ⟨r', w, ws, b, e, _⟩
    · rcases rowKinds' g.1 with ⟨i, sm, rfl, _⟩ | ⟨sm, rfl, _⟩ | ⟨sm, a, b, rfl, _⟩ | ⟨sm, wl, b, rfl, _⟩
      · simp only [toPy, toPys]
        exact (lyTup (lyCons ((lyStr lyKinds.1).up (by omega)) (lyCons ((lyInt i).up (by omega)) (lyCons (lySum' sm) (lyNil _))))).up (by omega)
      · cases e
      · cases e
      · cases e
    · rcases rowKinds' g.1 with ⟨i, sm, rfl, _⟩ | ⟨sm, rfl, _⟩ | ⟨sm, a, b, rfl, _⟩ | ⟨sm, wl, b, rfl, _⟩
      · cases e
      · simp only [toPy, toPys]
        exact (lyTup (lyCons ((lyStr lyKinds.2.1).up (by omega)) (lyCons (lySum' sm) (lyNil _)))).up (by omega)
      · cases e
      · cases e
    · cases e
    · cases e
  | succ r ih =>
    intro d g
    have rowsLy : ∀ rs : List D, (∀ x ∈ rs, GRow many r x) → Ly (6 + 2 * r) (toPy (.tup rs)) := fun rs h => by
      simp only [toPy]
      refine (lyTup (n := 5 + 2 * r) (lyAll fun y hy => ?_)).up (by omega)
      rw [toPys_map] at hy
      obtain ⟨x, hx, rfl⟩ := List.mem_map.mp hy
      exact ih (h x hx)
    rcases gKinds g with ⟨b, s, e⟩ | ⟨w, e⟩ | ⟨r', w, a, b, e, e2, ga, gb⟩ | ⟨r', w, ws, b, e, e2, gb⟩
    · rcases rowKinds' g.1 with ⟨i, sm, rfl, _⟩ | ⟨sm, rfl, _⟩ | ⟨sm, a, b, rfl, _⟩ | ⟨sm, wl, b, rfl, _⟩
      · simp only [toPy, toPys]
        exact (lyTup (lyCons ((lyStr lyKinds.1).up (by omega)) (lyCons ((lyInt i).up (by omega)) (lyCons (lySum' sm) (lyNil _))))).up (by omega)
      · cases e
      · cases e
      · cases e
    · rcases rowKinds' g.1 with ⟨i, sm, rfl, _⟩ | ⟨sm, rfl, _⟩ | ⟨sm, a, b, rfl, _⟩ | ⟨sm, wl, b, rfl, _⟩
      · cases e
      · simp only [toPy, toPys]
        exact (lyTup (lyCons ((lyStr lyKinds.2.1).up (by omega)) (lyCons (lySum' sm) (lyNil _)))).up (by omega)
      · cases e
      · cases e
    · have : r' = r := by omega
      subst this
      subst e2
      rcases rowKinds' g.1 with ⟨i, sm, e3, _⟩ | ⟨sm, e3, _⟩ | ⟨sm, a2, b2, e3, _⟩ | ⟨sm, wl, b2, e3, _⟩
      · cases e3
      · cases e3
      · cases e3
        rw [toPy, toPys, toPys, toPys, toPys, toPys]
        exact (lyTup (n := 6 + 2 * r') (lyCons ((lyStr lyKinds.2.2.1).up (by omega)) (lyCons ((lySum' sm).up (by omega)) (lyCons (rowsLy a ga) (lyCons (rowsLy b gb) (lyNil _)))))).up (by omega)
      · injection e3 with e3
        injection e3 with e3 _
        injection e3 with e3
        exact absurd e3 kinds.2.2.2.2.2.1
    · have : r' = r := by omega
      subst this
      subst e2
      rcases rowKinds' g.1 with ⟨i, sm, e3, _⟩ | ⟨sm, e3, _⟩ | ⟨sm, a2, b2, e3, _⟩ | ⟨sm, wl, b2, e3, _⟩
      · cases e3
      · cases e3
      · injection e3 with e3
        injection e3 with e3 _
        injection e3 with e3
        exact absurd e3 kinds.2.2.2.2.1
      · cases e3
        rw [toPy, toPys, toPys, toPys, toPys, toPys]
        have wly : Ly 4 (toPy (.tup (wl.map dSm))) := by
          rw [toPy]
          refine lyTup (lyAll fun y hy => ?_)
          rw [toPys_map] at hy
          obtain ⟨x, hx, rfl⟩ := List.mem_map.mp hy
          obtain ⟨s, _, rfl⟩ := List.mem_map.mp hx
          exact lySum' s
        exact (lyTup (n := 6 + 2 * r') (lyCons ((lyStr lyKinds.2.2.2).up (by omega)) (lyCons ((lySum' sm).up (by omega)) (lyCons (wly.up (by omega)) (lyCons (rowsLy b gb) (lyNil _)))))).up (by omega)
theorem lyRows {many r : Nat} {rs : List D} (h : ∀ x ∈ rs, GRow many r x) : Ly (6 + 2 * r) (toPy (.tup rs)) := by
  rw [toPy]
  refine (lyTup (n := 5 + 2 * r) (lyAll fun y hy => ?_)).up (by omega)
  rw [toPys_map] at hy
  obtain ⟨x, hx, rfl⟩ := List.mem_map.mp hy
  exact lyRow r (h x hx)
def dPl (p : List Nat) : PyData := .tuple (p.map fun (n : Nat) => PyData.int (n : Int))
theorem dpNats {K : PySem.W.Frag} {H : Hp} : ∀ p : List Nat, DpAll K H (nats p) (p.map fun (n : Nat) => PyData.int (n : Int))
  | [] => .nil
  | n :: r => .cons (.int n) (dpNats r)
theorem lyPl (p : List Nat) : Ly 2 (dPl p) := lyTup (lyAll fun d hd => by
  obtain ⟨n, _, rfl⟩ := List.mem_map.mp hd
  exact lyInt n)
def dPd (p : Pd) : PyData := .tuple [dPl p.1, toPy p.2]
theorem dpPd {K : PySem.W.Frag} {H : Hp} {v : V} {p : Pd} (hp : p.2.pure = true) (h : PlIn K H v p) : Dp K H v (dPd p) := by
  obtain ⟨t, pa, rv, rfl, h1, h2, h3⟩ := h
  exact .tup h1 (.cons (.tup h2 (dpNats _)) (.cons (dpD hp h3) .nil))
theorem dpPds {K : PySem.W.Frag} {H : Hp} : ∀ {vs : List V} {ps : List Pd}, (∀ p ∈ ps, p.2.pure = true) → PlL K H vs ps → DpAll K H vs (ps.map dPd)
  | _, _, _, .nil => .nil
  | _, _, hp, .cons r t => .cons (dpPd (hp _ List.mem_cons_self) r) (dpPds (fun p hm => hp p (List.mem_cons_of_mem _ hm)) t)
theorem GRow.up {many : Nat} : ∀ {r r' : Nat} {d : D}, GRow many r d → r ≤ r' → GRow many r' d := by
  have gup : ∀ (r : Nat) (d : D), good many r d = true → good many (r + 1) d = true := by
    intro r
    induction r with
    | zero => intro d h; simp [good] at h
    | succ r ih =>
      intro d h
      cases d with
      | tup rows =>
        rw [good, List.all_eq_true] at h ⊢
        intro x hx
        have := h x hx
        rw [Bool.and_eq_true] at this ⊢
        refine ⟨this.1, ?_⟩
        rw [List.all_eq_true]
        intro y hy
        exact ih y (List.all_eq_true.mp this.2 y hy)
      | _ => simp [good] at h
  intro r r' d h l
  obtain ⟨k, rfl⟩ : ∃ k, r' = r + k := ⟨r' - r, by omega⟩
  clear l
  induction k with
  | zero => exact h
  | succ k ih =>
    refine ⟨ih.1, ih.2.1, ?_⟩
    rw [List.all_eq_true]
    exact fun y hy => gup _ y (List.all_eq_true.mp ih.2.2 y hy)
theorem plGood {many m : Nat} : ∀ (r : Nat) (rows : List D) (ahead : List Nat), (∀ d ∈ rows, GRow many m d) → ∀ p ∈ plD r rows ahead, GRow many m p.2
  | 0, _, _, _, p, h => by cases h
  | r + 1, rows, ahead, h, p, hp => by
    rw [plD, List.mem_flatMap] at hp
    obtain ⟨⟨d, i⟩, hm, hp⟩ := hp
    have hd : d ∈ rows := by
      have := List.mem_zipIdx hm
      simp at this
      rw [this.2]
      exact List.getElem_mem _
    have g := h d hd
    rcases List.mem_cons.mp hp with e | hp
    · subst e
      exact g
    · rw [List.mem_flatMap] at hp
      obtain ⟨⟨x, j⟩, hx, hp⟩ := hp
      have hxi : x ∈ inner d := by
        have := List.mem_zipIdx hx
        simp at this
        rw [this.2]
        exact List.getElem_mem _
      refine plGood r (rowsOf x) _ (fun y hy => ?_) p hp
      rcases gKinds g with ⟨b, s, rfl⟩ | ⟨w, rfl⟩ | ⟨r2, w, a, b, e, rfl, ga, gb⟩ | ⟨r2, w, ws, b, e, rfl, gb⟩
      · rw [in_put] at hxi; cases hxi
      · rw [in_say] at hxi; cases hxi
      · rw [in_if] at hxi
        rcases List.mem_cons.mp hxi with e2 | e2
        · subst e2; exact (ga y hy).up (by omega)
        · rw [List.mem_singleton.mp e2] at hy; exact (gb y hy).up (by omega)
      · rw [in_loop] at hxi
        rw [List.mem_singleton.mp hxi] at hy
        exact (gb y hy).up (by omega)
theorem lyPd {many : Nat} {p : Pd} (h : GRow many 3 p.2) : Ly 12 (dPd p) := (lyTup (n := 11) (lyCons ((lyPl p.1).up (by decide)) (lyCons ((lyRow 3 h).up (by decide)) (lyNil _)))).up (by decide)
theorem lyPds {many : Nat} {ps : List Pd} (h : ∀ p ∈ ps, GRow many 3 p.2) : Ly 13 (.list (ps.map dPd)) := lyLst (lyAll fun d hd => by
  obtain ⟨p, hp, rfl⟩ := List.mem_map.mp hd
  exact lyPd (h p hp))
end LW

/-! stretches, trees, fillings in a stretch -/
namespace LW
open PySem PySem.Spec PyProof.Rows L2
abbrev Iv := Int × Int
/-- a pair of two numbers in the heap; a list of such -/
def PrI (K : PySem.W.Frag) (H : Hp) (v : V) (p : Iv) : Prop := ∃ t, v = .ref t ∧ SqT K H t [.int p.1, .int p.2]
def StrIn (K : PySem.W.Frag) (H : Hp) (a : Addr) (st : List Iv) : Prop := ∃ vs, SqL K H a vs ∧ A2 (PrI K H) vs st
theorem priTS {K : PySem.W.Frag} {H H' : Hp} {vs : List V} {st : List Iv} (e : TS H H') (h : A2 (PrI K H) vs st) : A2 (PrI K H') vs st :=
  A2.map (B' := st) (fun _ _ _ ⟨t, e0, h1⟩ => ⟨t, e0, tsTup e h1⟩) (fun _ m => m) h
theorem StrIn.same {K : PySem.W.Frag} {H H' : Hp} {a : Addr} {st : List Iv} (e : Same H H') (h : StrIn K H a st) : StrIn K H' a st := by
  obtain ⟨vs, h1, h2⟩ := h
  exact ⟨vs, Same.seq e h1, priTS (tsOf e) h2⟩
/-- the least that a sum may be in a stretch, without its last number -/
def low : List Int → List Iv → Int
  | n :: ns, p :: ps => min (n * p.1) (n * p.2) + low ns ps
  | _, _ => 0
def least (s : Sm) (st : List Iv) : Int := s.2 + low s.1 st
theorem low_take : ∀ {a : List Int} {b : List Iv} {i : Nat} {x : Int} {y : Iv}, a[i]? = some x → b[i]? = some y → low (a.take (i + 1)) (b.take (i + 1)) = low (a.take i) (b.take i) + min (x * y.1) (x * y.2)
  | [], _, _, _, _, h, _ => by simp at h
  | _ :: _, [], _, _, _, _, h => by simp at h
  | n :: ns, p :: ps, 0, x, y, h, h' => by
    simp at h h'
    subst h h'
    simp [low]
  | n :: ns, p :: ps, i + 1, x, y, h, h' => by
    have ih := low_take (a := ns) (b := ps) (i := i) (x := x) (y := y) (by simpa using h) (by simpa using h')
    simp only [List.take_succ_cons, low]
    rw [ih]
    omega
theorem minTwo {a b m : Int} (h : m ∈ [a, b]) (h2 : ∀ y, y ∈ [a, b] → m ≤ y) : m = min a b := by
  have h3 := h2 a (by simp)
  have h4 := h2 b (by simp)
  rcases List.mem_cons.mp h with e | e
  · omega
  · have := List.mem_singleton.mp e
    omega
def holds (ss : List Sm) (fs : List Int) : Bool := ss.all fun s => decide (val s fs ≤ 0)
theorem holds_take {ss : List Sm} {fs : List Int} {i : Nat} {s : Sm} (e : ss[i]? = some s) : holds (ss.take (i + 1)) fs = (holds (ss.take i) fs && decide (val s fs ≤ 0)) := by
  obtain ⟨hi, e1⟩ := List.getElem?_eq_some_iff.mp e
  subst e1
  rw [holds, List.take_succ_eq_append_getElem hi, List.all_append]
  simp [holds]
section
variable {α β : Type} {R : α → β → Prop}
theorem A2.take : ∀ {a : List α} {b : List β} (n : Nat), A2 R a b → A2 R (a.take n) (b.take n)
  | _, _, 0, _ => by simpa using A2.nil
  | _, _, _ + 1, .nil => by simpa using A2.nil
  | _, _, n + 1, .cons h t => by simpa using A2.cons h (A2.take n t)
theorem A2.drop : ∀ {a : List α} {b : List β} (n : Nat), A2 R a b → A2 R (a.drop n) (b.drop n)
  | _, _, 0, h => by simpa using h
  | _, _, _ + 1, .nil => by simpa using A2.nil
  | _, _, n + 1, .cons _ t => by simpa using A2.drop n t
end
/-- a tree, well or not -/
inductive Tr where
  | sum (n : Int) | cut (n c : Int) (a b : Tr)
def Tr.deep : Tr → Nat
  | .sum _ => 1
  | .cut _ _ a b => max a.deep b.deep + 1
inductive TrIn (K : PySem.W.Frag) (H : Hp) : V → Tr → Prop
  | sum {a : Addr} {n : Int} (h : SqT K H a [.str "sum", .int n]) : TrIn K H (.ref a) (.sum n)
  | cut {a : Addr} {n c : Int} {v w : V} {s t : Tr} (h : SqT K H a [.str "cut", .int n, .int c, v, w]) (h1 : TrIn K H v s) (h2 : TrIn K H w t) : TrIn K H (.ref a) (.cut n c s t)
theorem trTS {K : PySem.W.Frag} {H H' : Hp} (e : TS H H') : ∀ {v : V} {t : Tr}, TrIn K H v t → TrIn K H' v t
  | _, _, .sum h => .sum (tsTup e h)
  | _, _, .cut h a b => .cut (tsTup e h) (trTS e a) (trTS e b)
def below (st : List Iv) (j : Nat) (p : Iv) (c : Int) : List Iv := st.take j ++ [(p.1, c)] ++ st.drop (j + 1)
def above (st : List Iv) (j : Nat) (p : Iv) (c : Int) : List Iv := st.take j ++ [(c + 1, p.2)] ++ st.drop (j + 1)
def isT (ss : List Sm) : List Iv → Tr → Bool
  | st, .sum n => decide (0 ≤ n) && match ss[n.toNat]? with
    | some s => decide (0 < least s st)
    | none => false
  | st, .cut n c a b => decide (0 ≤ n) && match st[n.toNat]? with
    | some p => decide (p.1 ≤ c) && decide (c < p.2) && isT ss (below st n.toNat p c) a && isT ss (above st n.toNat p c) b
    | none => false
theorem cutK : ("cut" : Str) ≠ "sum" := by decide +kernel
/-- a filling in the heap, a list of one's own -/
def FIn (K : PySem.W.Frag) (H : Hp) (v : V) (fs : List Int) : Prop := ∃ a, v = .ref a ∧ H a = some (.lst (fs.map V.int))
theorem finSame {K : PySem.W.Frag} {H H' : Hp} {vs : List V} {ff : List (List Int)} (e : Same H H') (h : A2 (FIn K H) vs ff) : A2 (FIn K H') vs ff :=
  A2.map (B' := ff) (fun _ _ _ ⟨a, e0, h1⟩ => ⟨a, e0, e _ _ h1⟩) (fun _ m => m) h
def FInN (D : Addr) (H : Hp) (v : V) (fs : List Int) : Prop := ∃ a, v = .ref a ∧ a ≠ D ∧ H a = some (.lst (fs.map V.int))
theorem finN {K : PySem.W.Frag} {D : Addr} {H : Hp} {vs : List V} {ff : List (List Int)} (h : A2 (FInN D H) vs ff) : A2 (FIn K H) vs ff :=
  A2.map (B' := ff) (fun _ _ _ ⟨a, e0, _, h1⟩ => ⟨a, e0, h1⟩) (fun _ m => m) h
theorem finNSame {D : Addr} {H H' : Hp} {vs : List V} {ff : List (List Int)} (e : Same H H') (h : A2 (FInN D H) vs ff) : A2 (FInN D H') vs ff :=
  A2.map (B' := ff) (fun _ _ _ ⟨a, e0, n, h1⟩ => ⟨a, e0, n, e _ _ h1⟩) (fun _ m => m) h
theorem finNMut {D : Addr} {H : Hp} {o : HO} {vs : List V} {ff : List (List Int)} (h : A2 (FInN D H) vs ff) : A2 (FInN D (upd H D o)) vs ff :=
  A2.map (B' := ff) (fun _ _ _ ⟨a, e0, n, h1⟩ => ⟨a, e0, n, by rw [upd_ne n]; exact h1⟩) (fun _ m => m) h
def many (p : Iv) : Nat := (p.2 + 1 - p.1).toNat
def exts (f : List Int) (p : Iv) (n : Nat) : List (List Int) := (List.range n).map fun (k : Nat) => f ++ [p.1 + (k : Int)]
def ext (ff : List (List Int)) (p : Iv) : List (List Int) := ff.flatMap fun f => exts f p (many p)
def allIn (st : List Iv) : List (List Int) := st.foldl ext [[]]
theorem ext_len {ff : List (List Int)} {p : Iv} : (ext ff p).length = ff.length * many p := by
  induction ff with
  | nil => simp [ext]
  | cons f r ih =>
    simp only [ext, List.flatMap_cons, List.length_append] at ih ⊢
    rw [ih]
    simp [exts, Nat.succ_mul, Nat.add_comm]
theorem allIn_take {st : List Iv} {i : Nat} {p : Iv} (e : st[i]? = some p) : allIn (st.take (i + 1)) = ext (allIn (st.take i)) p := by
  obtain ⟨hi, e1⟩ := List.getElem?_eq_some_iff.mp e
  subst e1
  rw [allIn, List.take_succ_eq_append_getElem hi, List.foldl_append]
  rfl
theorem allIn_len {st : List Iv} (h : ∀ p ∈ st, many p ≤ 10) : ∀ i, (allIn (st.take i)).length ≤ 10 ^ i
  | 0 => by simp [allIn]
  | i + 1 => by
    cases e : st[i]? with
    | none =>
      have : st.take (i + 1) = st.take i := by
        have hl : st.length ≤ i := by simpa using e
        rw [List.take_of_length_le (by omega), List.take_of_length_le hl]
      rw [this]
      have := allIn_len h i
      rw [Nat.pow_succ]
      omega
    | some p =>
      rw [allIn_take e, ext_len, Nat.pow_succ]
      exact Nat.mul_le_mul (allIn_len h i) (h p (List.mem_of_getElem? e))
theorem ext_take {ff : List (List Int)} {p : Iv} {j : Nat} {f : List Int} (e : ff[j]? = some f) : ext (ff.take (j + 1)) p = ext (ff.take j) p ++ exts f p (many p) := by
  obtain ⟨hi, e1⟩ := List.getElem?_eq_some_iff.mp e
  subst e1
  rw [ext, List.take_succ_eq_append_getElem hi, List.flatMap_append]
  simp [ext]
theorem allIn_deep {st : List Iv} : ∀ i, ∀ f ∈ allIn (st.take i), f.length ≤ i
  | 0, f, m => by
    simp [allIn] at m
    simp [m]
  | i + 1, f, m => by
    cases e : st[i]? with
    | none =>
      have : st.take (i + 1) = st.take i := by
        have hl : st.length ≤ i := by simpa using e
        rw [List.take_of_length_le (by omega), List.take_of_length_le hl]
      rw [this] at m
      exact Nat.le_succ_of_le (allIn_deep i f m)
    | some p =>
      rw [allIn_take e, ext, List.mem_flatMap] at m
      obtain ⟨g, mg, m⟩ := m
      obtain ⟨k, _, rfl⟩ := List.mem_map.mp m
      have := allIn_deep i g mg
      simp
      omega
/-- a filling lies in a stretch -/
def InS : List Iv → List Int → Prop
  | [], [] => True
  | p :: ps, f :: fs => p.1 ≤ f ∧ f ≤ p.2 ∧ InS ps fs
  | _, _ => False
theorem mul_low {n f : Int} {p : Iv} (h1 : p.1 ≤ f) (h2 : f ≤ p.2) : min (n * p.1) (n * p.2) ≤ n * f := by
  by_cases h : 0 ≤ n
  · have := Int.mul_le_mul_of_nonneg_left h1 h
    omega
  · have := Int.mul_le_mul_of_nonpos_left (a := n) (by omega) h2
    omega
theorem low_le : ∀ {a : List Int} {st : List Iv} {fs : List Int}, InS st fs → low a st ≤ dot a fs ∨ a.length ≠ st.length
  | [], [], [], _ => .inl (by simp [low, dot])
  | [], _ :: _, _, _ => .inr (by simp)
  | _ :: _, [], _, _ => .inr (by simp)
  | n :: ns, p :: ps, f :: fs, h => by
    have hm := mul_low (n := n) h.1 h.2.1
    rcases low_le (a := ns) h.2.2 with h3 | h3
    · refine .inl ?_
      simp only [low, dot]
      omega
    · exact .inr (by simpa using h3)
  | [], [], _ :: _, h => h.elim
  | _ :: _, _ :: _, [], h => h.elim
theorem least_le {s : Sm} {st : List Iv} {fs : List Int} (h : InS st fs) (hl : s.1.length = st.length) : least s st ≤ val s fs := by
  rcases low_le (a := s.1) h with h | h
  · unfold least val
    omega
  · exact absurd hl h
theorem ins_at : ∀ {st : List Iv} {fs : List Int} {j : Nat} {p : Iv}, InS st fs → st[j]? = some p → ∃ f, fs[j]? = some f ∧ p.1 ≤ f ∧ f ≤ p.2
  | [], _, _, _, _, e => by simp at e
  | p :: ps, f :: fs, 0, _, h, e => by
    simp at e
    subst e
    exact ⟨f, rfl, h.1, h.2.1⟩
  | p :: ps, f :: fs, j + 1, _, h, e => by
    obtain ⟨g, e1, e2⟩ := ins_at (j := j) h.2.2 (by simpa using e)
    exact ⟨g, by simpa using e1, e2⟩
  | _ :: _, [], _, _, h, _ => h.elim
theorem ins_set : ∀ {st : List Iv} {fs : List Int} {j : Nat} {f : Int} {r : Iv}, InS st fs → fs[j]? = some f → r.1 ≤ f → f ≤ r.2 → j < st.length → InS (st.take j ++ [r] ++ st.drop (j + 1)) fs
  | [], _, _, _, _, _, _, _, _, l => by simp at l
  | p :: ps, g :: fs, 0, f, r, h, e, h1, h2, _ => by
    simp at e
    subst e
    exact ⟨h1, h2, by simpa using h.2.2⟩
  | p :: ps, g :: fs, j + 1, f, r, h, e, h1, h2, l => by
    have := ins_set (j := j) (f := f) (r := r) h.2.2 (by simpa using e) h1 h2 (by simpa using l)
    exact ⟨h.1, h.2.1, by simpa using this⟩
  | _ :: _, [], _, _, _, h, _, _, _, _ => h.elim
/-- where a tree tells it, nothing in the stretch has all hold -/
theorem isT_sound {ss : List Sm} : ∀ (t : Tr) {st : List Iv} {fs : List Int}, isT ss st t = true → (∀ s ∈ ss, s.1.length = st.length) → InS st fs → holds ss fs = false
  | .sum n, st, fs, h, hw, hi => by
    rw [isT, Bool.and_eq_true] at h
    cases e : ss[n.toNat]? with
    | none => rw [e] at h; cases h.2
    | some s =>
      rw [e] at h
      have h2 := of_decide_eq_true h.2
      have ms := List.mem_of_getElem? e
      have := least_le hi (hw s ms)
      refine Bool.eq_false_iff.mpr fun z => ?_
      rw [holds, List.all_eq_true] at z
      have := of_decide_eq_true (z s ms)
      omega
  | .cut n c a b, st, fs, h, hw, hi => by
    rw [isT, Bool.and_eq_true] at h
    cases e : st[n.toNat]? with
    | none => rw [e] at h; cases h.2
    | some p =>
      rw [e] at h
      simp only [Bool.and_eq_true, decide_eq_true_eq] at h
      obtain ⟨_, ⟨⟨h1, h2⟩, h3⟩, h4⟩ := h
      have hj := (List.getElem?_eq_some_iff.mp e).1
      obtain ⟨f, ef, f1, f2⟩ := ins_at hi e
      by_cases hc : f ≤ c
      · refine isT_sound a h3 (fun s hs => (hw s hs).trans ?_) (ins_set hi ef f1 hc hj)
        simp [below]
        omega
      · refine isT_sound b h4 (fun s hs => (hw s hs).trans ?_) (ins_set hi ef (show c + 1 ≤ f by omega) f2 hj)
        simp [above]
        omega
theorem ins_snoc : ∀ {st : List Iv} {fs : List Int} {p : Iv} {x : Int}, InS st fs → p.1 ≤ x → x ≤ p.2 → InS (st ++ [p]) (fs ++ [x])
  | [], [], _, _, _, h1, h2 => ⟨h1, h2, trivial⟩
  | _ :: _, _ :: _, _, _, h, h1, h2 => ⟨h.1, h.2.1, ins_snoc h.2.2 h1 h2⟩
  | [], _ :: _, _, _, h, _, _ => h.elim
  | _ :: _, [], _, _, h, _, _ => h.elim
theorem allIn_in {st : List Iv} : ∀ i, i ≤ st.length → ∀ fs ∈ allIn (st.take i), InS (st.take i) fs
  | 0, _, fs, m => by
    simp [allIn] at m
    subst m
    trivial
  | i + 1, l, fs, m => by
    have e : st[i]? = some st[i] := List.getElem?_eq_getElem (by omega)
    rw [allIn_take e, ext, List.mem_flatMap] at m
    obtain ⟨g, mg, m⟩ := m
    obtain ⟨k, hk, rfl⟩ := List.mem_map.mp m
    have hk2 := List.mem_range.mp hk
    unfold many at hk2
    rw [List.take_succ_eq_append_getElem (by omega)]
    exact ins_snoc (allIn_in i (by omega) g mg) (by omega) (by omega)
/-- a tree: none of all fillings has all hold -/
theorem tree_none {ss : List Sm} {st : List Iv} {t : Tr} (h : isT ss st t = true) (hw : ∀ s ∈ ss, s.1.length = st.length) : ∀ fs ∈ allIn st, holds ss fs = false := fun fs m =>
  isT_sound t h hw (by
    have := allIn_in (st := st) st.length (Nat.le_refl _) fs
    rw [List.take_length] at this
    exact this m)
def size (st : List Iv) : Nat := (st.map fun p => (p.2 - p.1).toNat).sum
theorem size_cut : ∀ {st : List Iv} {j : Nat} {p r : Iv}, st[j]? = some p → (r.2 - r.1).toNat < (p.2 - p.1).toNat → size (st.take j ++ [r] ++ st.drop (j + 1)) < size st
  | [], _, _, _, e, _ => by simp at e
  | q :: st, 0, p, r, e, h => by
    simp at e
    subst e
    simp [size]
    omega
  | q :: st, j + 1, p, r, e, h => by
    have := size_cut (st := st) (j := j) (p := p) (r := r) (by simpa using e) h
    simp only [size, List.take_succ_cons, List.cons_append, List.drop_succ_cons, List.map_cons, List.sum_cons] at this ⊢
    omega
/-- a tree that is well is no deeper than its stretch lets it be -/
theorem deep_le {ss : List Sm} : ∀ (t : Tr) {st : List Iv}, isT ss st t = true → t.deep ≤ size st + 1
  | .sum n, st, _ => by simp [Tr.deep]
  | .cut n c a b, st, h => by
    rw [isT, Bool.and_eq_true] at h
    cases e : st[n.toNat]? with
    | none => rw [e] at h; cases h.2
    | some p =>
      rw [e] at h
      simp only [Bool.and_eq_true, decide_eq_true_eq] at h
      obtain ⟨_, ⟨⟨h1, h2⟩, h3⟩, h4⟩ := h
      have d1 := deep_le a h3
      have d2 := deep_le b h4
      have z1 := size_cut (r := (p.1, c)) e (by dsimp only; omega)
      have z2 := size_cut (r := (c + 1, p.2)) e (by dsimp only; omega)
      simp only [Tr.deep]
      unfold below at d1
      unfold above at d2
      omega
end LW

namespace LW
open PySem PySem.Spec PyProof.Rows L2
theorem kTn {X : Cx} {K : PySem.W.Frag} {es : List Expr} {k : Nat} {t : TGs} {n : Nat} {pos : Pos} (h : X.K = K) (hc : X.calm = true) (h1 : PGs X es t)
    (hn : (assignEach es X.env).length = n := by rfl) (hst : (assignEach es X.env).findIdx? (·.1) = none := by rfl) : PG X (.Tuple es k pos) (gTup K n t) := by
  subst h
  exact pg_tup hc h1 hn hst
/-- a list stays where another object changes -/
theorem seqNe {K : PySem.W.Frag} {H : Hp} {a p : Addr} {o : HO} {xs : List V} (h : SqL K H a xs) (ne : a ≠ p) : SqL K (upd H p o) a xs := by
  rcases h with (h | ⟨o', h⟩) | h
  · exact .inl (.inl (by show upd H p o a = _; rw [upd_ne ne]; exact h))
  · exact .inl (.inr ⟨o', by show upd H p o a = _; rw [upd_ne ne]; exact h⟩)
  · exact .inr h
/-- the least and the greatest, as the signs of the numbers say -/
def lowP : List Int → List Iv → Int
  | n :: ns, p :: ps => (if 0 < n then n * p.1 else n * p.2) + lowP ns ps
  | _, _ => 0
def highP : List Int → List Iv → Int
  | n :: ns, p :: ps => (if 0 < n then n * p.2 else n * p.1) + highP ns ps
  | _, _ => 0
def leastP (s : Sm) (st : List Iv) : Int := s.2 + lowP s.1 st
def mostP (s : Sm) (st : List Iv) : Int := s.2 + highP s.1 st
theorem lowP_take : ∀ {a : List Int} {b : List Iv} {i : Nat} {x : Int} {y : Iv}, a[i]? = some x → b[i]? = some y →
    lowP (a.take (i + 1)) (b.take (i + 1)) = lowP (a.take i) (b.take i) + (if 0 < x then x * y.1 else x * y.2) ∧ highP (a.take (i + 1)) (b.take (i + 1)) = highP (a.take i) (b.take i) + (if 0 < x then x * y.2 else x * y.1)
  | [], _, _, _, _, h, _ => by simp at h
  | _ :: _, [], _, _, _, _, h => by simp at h
  | n :: ns, p :: ps, 0, x, y, h, h' => by
    simp at h h'
    subst h h'
    simp [lowP, highP]
  | n :: ns, p :: ps, i + 1, x, y, h, h' => by
    have ih := lowP_take (a := ns) (b := ps) (i := i) (x := x) (y := y) (by simpa using h) (by simpa using h')
    simp only [List.take_succ_cons, lowP, highP]
    rw [ih.1, ih.2]
    constructor <;> omega
theorem lowP_low : ∀ {a : List Int} {b : List Iv}, (∀ p ∈ b, p.1 ≤ p.2) → lowP a b = low a b
  | [], _, _ => by simp [lowP, low]
  | _ :: _, [], _ => by simp [lowP, low]
  | n :: ns, p :: ps, h => by
    have ih := lowP_low (a := ns) (b := ps) fun q hq => h q (List.mem_cons_of_mem _ hq)
    have hp := h p (List.mem_cons_self ..)
    simp only [lowP, low, ih]
    by_cases hn : 0 < n
    · have := Int.mul_le_mul_of_nonneg_left hp (show 0 ≤ n by omega)
      rw [if_pos hn]
      omega
    · have := Int.mul_le_mul_of_nonpos_left (a := n) (by omega) hp
      rw [if_neg hn]
      omega
theorem leastP_least {s : Sm} {st : List Iv} (h : ∀ p ∈ st, p.1 ≤ p.2) : leastP s st = least s st := by
  unfold leastP least
  rw [lowP_low h]
theorem setAt {α : Type} : ∀ {l : List α} {j : Nat} {x : α}, j < l.length → l.set j x = l.take j ++ [x] ++ l.drop (j + 1)
  | [], _, _, h => by simp at h
  | a :: r, 0, x, _ => by simp
  | a :: r, j + 1, x, h => by
    have ih := setAt (l := r) (j := j) (x := x) (by simpa using h)
    simp only [List.set_cons_succ, ih, List.take_succ_cons, List.cons_append, List.drop_succ_cons]
theorem A2.set {α β : Type} {R : α → β → Prop} : ∀ {a : List α} {b : List β} {j : Nat} {x : α} {y : β}, A2 R a b → R x y → A2 R (a.set j x) (b.set j y)
  | _, _, _, _, _, .nil, _ => .nil
  | _, _, 0, _, _, .cons _ t, r => .cons r t
  | _, _, j + 1, _, _, .cons h t, r => .cons h (A2.set t r)
theorem ixN_nat {n j : Nat} (h : j < n) : ixN n (j : Int) = some j := by
  unfold ixN
  rw [if_pos (by omega), if_pos (by omega)]
  rfl
/-- by a filling in the stretch a sum is at most its greatest -/
theorem mul_high {n f : Int} {p : Iv} (h1 : p.1 ≤ f) (h2 : f ≤ p.2) : n * f ≤ if 0 < n then n * p.2 else n * p.1 := by
  by_cases h : 0 < n
  · rw [if_pos h]
    exact Int.mul_le_mul_of_nonneg_left h2 (by omega)
  · rw [if_neg h]
    exact Int.mul_le_mul_of_nonpos_left (a := n) (by omega) h1
theorem high_le : ∀ {a : List Int} {st : List Iv} {fs : List Int}, InS st fs → dot a fs ≤ highP a st ∨ a.length ≠ st.length
  | [], [], [], _ => .inl (by simp [highP, dot])
  | [], _ :: _, _, _ => .inr (by simp)
  | _ :: _, [], _, _ => .inr (by simp)
  | n :: ns, p :: ps, f :: fs, h => by
    have hm := mul_high (n := n) h.1 h.2.1
    rcases high_le (a := ns) h.2.2 with h3 | h3
    · refine .inl ?_
      simp only [highP, dot]
      omega
    · exact .inr (by simpa using h3)
  | [], [], _ :: _, h => h.elim
  | _ :: _, _ :: _, [], h => h.elim
theorem most_le {s : Sm} {st : List Iv} {fs : List Int} (h : InS st fs) (hl : s.1.length = st.length) : val s fs ≤ mostP s st := by
  rcases high_le (a := s.1) h with h | h
  · unfold mostP val
    omega
  · exact absurd hl h
theorem ins_wide : ∀ {st : List Iv} {j : Nat} {p r : Iv} {fs : List Int}, st[j]? = some p → p.1 ≤ r.1 → r.2 ≤ p.2 → InS (st.take j ++ [r] ++ st.drop (j + 1)) fs → InS st fs
  | [], _, _, _, _, e, _, _, _ => by simp at e
  | q :: qs, 0, p, r, fs, e, h1, h2, h => by
    have : q = p := by simpa using e
    subst this
    cases fs with
    | nil => exact h.elim
    | cons f t =>
      have h' : r.1 ≤ f ∧ f ≤ r.2 ∧ InS qs t := by simpa [InS] using h
      exact ⟨by omega, by omega, h'.2.2⟩
  | q :: qs, j + 1, p, r, fs, e, h1, h2, h => by
    cases fs with
    | nil => exact h.elim
    | cons f t =>
      have h' : q.1 ≤ f ∧ f ≤ q.2 ∧ InS (qs.take j ++ [r] ++ qs.drop (j + 1)) t := by simpa [InS] using h
      exact ⟨h'.1, h'.2.1, ins_wide (by simpa using e) h1 h2 h'.2.2⟩
theorem ins_low : ∀ {st : List Iv}, (∀ p ∈ st, p.1 ≤ p.2) → InS st (st.map (·.1))
  | [], _ => trivial
  | p :: ps, h => ⟨Int.le_refl _, h p (List.mem_cons_self ..), ins_low fun q hq => h q (List.mem_cons_of_mem _ hq)⟩
theorem in_allIn : ∀ {st : List Iv} {ff : List (List Int)} {f fs : List Int}, f ∈ ff → InS st fs → f ++ fs ∈ st.foldl ext ff
  | [], ff, f, [], m, _ => by simpa using m
  | [], _, _, _ :: _, _, h => h.elim
  | _ :: _, _, _, [], _, h => h.elim
  | p :: ps, ff, f, x :: fs, m, h => by
    have m1 : f ++ [x] ∈ ext ff p := by
      rw [ext, List.mem_flatMap]
      refine ⟨f, m, List.mem_map.mpr ⟨(x - p.1).toNat, List.mem_range.mpr ?_, ?_⟩⟩
      · have h1 := h.1
        have h2 := h.2.1
        unfold many
        omega
      · have h1 := h.1
        have e : p.1 + ((x - p.1).toNat : Int) = x := by omega
        rw [e]
    have q := in_allIn (st := ps) m1 h.2.2
    rw [List.append_assoc] at q
    exact q
theorem allIn_of {st : List Iv} {fs : List Int} (h : InS st fs) : fs ∈ allIn st := by
  have q := in_allIn (ff := [[]]) (f := []) (by simp) h
  simpa [allIn] using q
theorem a2Snoc {α β : Type} {R : α → β → Prop} {a : List α} {x : α} {b : List β} (h : A2 R (a ++ [x]) b) : ∃ c y, b = c ++ [y] ∧ A2 R a c ∧ R x y := by
  induction a generalizing b with
  | nil =>
    cases h with
    | cons h t =>
      cases t
      exact ⟨[], _, rfl, .nil, h⟩
  | cons z r ih =>
    cases h with
    | cons h t =>
      obtain ⟨c, y, rfl, h1, h2⟩ := ih t
      exact ⟨_ :: c, y, rfl, .cons h h1, h2⟩
end LW

/-! zip(*l) of a list of one to three tuples, walked with a name as the target. -/
namespace LW
open PySem PySem.Spec PyProof.Rows L2

abbrev zCells (c0 : Value) (f : Bool) (TI TO : Addr) : Obj := { cls := .type "zip", dict := none, data := .fields #[c0, .bool f, .bool false, .ref TI, .ref TO], slots := #[] }
abbrev tCells (us : List Value) : Obj := { cls := .type "tuple", data := .seq us.toArray }
/-- what the tuple's field says: none, or the number of one that was told -/
def ToldC (c0 : Value) : Prop := c0 = .none ∨ ∃ T : Addr, c0 = rawInt T
structure ZsAt (z TI TO : Addr) (ws : List (Addr × Addr)) (h : Heap) (c0 : Value) (f : Bool) (us : List Value) (at_ : Nat → Nat) : Prop where
  z : h.get? z = some (zCells c0 f TI TO)
  ti : h.get? TI = some (tCells (ws.map fun w => Value.ref w.1))
  to : h.get? TO = some (tCells us)
  len : us.length = ws.length
  its : ∀ k w, ws[k]? = some w → h.IsTupleIter w.1 w.2 (at_ k)
structure ZsApart (z TI TO : Addr) (ws : List (Addr × Addr)) : Prop where
  zTI : z ≠ TI
  zTO : z ≠ TO
  TITO : TI ≠ TO
  out : ∀ w ∈ ws, w.1 ≠ z ∧ w.1 ≠ TI ∧ w.1 ≠ TO ∧ w.2 ≠ z ∧ w.2 ≠ TO
  own : ∀ w ∈ ws, ∀ x ∈ ws, w.2 ≠ x.1
  sep : ∀ (j k : Nat) w x, ws[j]? = some w → ws[k]? = some x → j ≠ k → w.1 ≠ x.1

section
variable {prog : Program} {w : World} {A : Around} {E : Value → Shared → Prop} {s : Shared} {z TI TO : Addr} {ws : List (Addr × Addr)}

theorem loadAny {a : Addr} {Q : Option Obj → Shared → Prop} (h : Q (s.heap.get? a) s) : wpAny (model prog w) A (loadIfAlive a) Q E s := fun _ _ _ => h

/-- whether it is free: one or the other -/
theorem free_any {c0 : Value} {f : Bool} {Q : Bool → Shared → Prop} (hc : ToldC c0) (hz : s.heap.get? z = some (zCells c0 f TI TO))
    (h : ∀ b f' h', h'.get? z = some (zCells c0 f' TI TO) → Heap.SameBut z s.heap h' → Q b { s with heap := h' }) : wpAny (model prog w) A (Builtin.SmallTypes.ownedTupleIsFree (.ref z)) Q E s := by
  unfold Builtin.SmallTypes.ownedTupleIsFree
  rcases hc with rfl | ⟨T, rfl⟩
  · exact wpAny_bind (wpAny_field hz rfl (x := .none) rfl (wpAny_pure (h true f s.heap hz (Heap.SameBut.refl _ _))))
  · refine wpAny_bind (wpAny_field hz rfl (x := rawInt T) rfl ?_)
    show wpAny _ _ (loadIfAlive ((T : Int).toNat) >>= _) _ _ _
    refine wpAny_bind (loadAny ?_)
    cases s.heap.get? (T : Int).toNat with
    | none => exact wpAny_pure (h true f s.heap hz (Heap.SameBut.refl _ _))
    | some o =>
      refine wpAny_bind (wpAny_field hz rfl (x := .bool f) rfl ?_)
      cases f with
      | true => exact wpAny_pure (h false true s.heap hz (Heap.SameBut.refl _ _))
      | false => exact wpAny_bind (wpAny_setField_rec hz (by simp) fun h1 hz1 hs1 => wpAny_pure (h false true h1 hz1 hs1))

end

/-- where the iterators stand when the first j of them were drawn from -/
def drawn (i j k : Nat) : Nat := if k < j then i + 1 else i
theorem wsAt {ws : List (Addr × Addr)} {j : Nat} {w : Addr × Addr} (h : ws[j]? = some w) : w ∈ ws := List.mem_of_getElem? h

section
variable {prog : Program} {W : World} {A : Around} {E : Value → Shared → Prop} {s : Shared} {z TI TO : Addr} {ws : List (Addr × Addr)} {i : Nat} {col : Nat → Value}

/-- h' is h but for the cells in cs -/
def Spare (cs : List Addr) (h h' : Heap) : Prop := h'.objs.size = h.objs.size ∧ ∀ c, c ∉ cs → ∀ o, h.get? c = some o → h'.get? c = some o
theorem Spare.refl (cs : List Addr) (h : Heap) : Spare cs h h := ⟨rfl, fun _ _ _ e => e⟩
theorem Spare.trans {cs ds : List Addr} {h h1 h2 : Heap} (a : Spare cs h h1) (b : Spare ds h1 h2) : Spare (cs ++ ds) h h2 :=
  ⟨b.1.trans a.1, fun c hc o e => b.2 c (fun q => hc (List.mem_append_right _ q)) o (a.2 c (fun q => hc (List.mem_append_left _ q)) o e)⟩
theorem Spare.mono {cs ds : List Addr} {h h1 : Heap} (a : Spare cs h h1) (l : ∀ c ∈ cs, c ∈ ds) : Spare ds h h1 := ⟨a.1, fun c hc o e => a.2 c (fun q => hc (l c q)) o e⟩
theorem Spare.of {c : Addr} {h h1 : Heap} (a : Heap.SameBut c h h1) : Spare [c] h h1 := ⟨a.1, fun d hd o e => a.extBut d o (by simpa using hd) e⟩

/-- the state within a turn: the first j iterators drawn from; the zip's own cell and its told tuple aside -/
structure Mid (ws : List (Addr × Addr)) (i : Nat) (col : Nat → Value) (j : Nat) (h : Heap) : Prop where
  its : ∀ k w, ws[k]? = some w → h.IsTupleIter w.1 w.2 (drawn i j k)
  val : ∀ k w, ws[k]? = some w → ∃ us : Array Value, h.IsTuple w.2 us ∧ us[i]? = some (col k)
theorem Mid.but {D : ZsApart z TI TO ws} {j : Nat} {h h' : Heap} (m : Mid ws i col j h) {cs : List Addr} (b : Spare cs h h') (l : ∀ c ∈ cs, c = z ∨ c = TO) : Mid ws i col j h' := by
  refine ⟨fun k w e => ?_, fun k w e => ?_⟩
  · have o := D.out w (wsAt e)
    exact (m.its k w e).at fun ob q => b.2 _ (fun y => by rcases l _ y with h | h <;> simp_all) ob q
  · have o := D.out w (wsAt e)
    obtain ⟨us, h1, h2⟩ := m.val k w e
    exact ⟨us, h1.at fun ob q => b.2 _ (fun y => by rcases l _ y with h | h <;> simp_all) ob q, h2⟩
/-- one drawn from -/
theorem draw1 (D : ZsApart z TI TO ws) {j : Nat} {w : Addr × Addr} (m : Mid ws i col j s.heap) (e : ws[j]? = some w) {Q : Value → Shared → Prop}
    (h : ∀ h', Mid ws i col (j + 1) h' → Spare [w.1] s.heap h' → Q (col j) { s with heap := h' }) : wpAny (model prog W) A (Builtin.SmallTypes.nextOf (.ref w.1)) Q E s := by
  obtain ⟨us, h1, h2⟩ := m.val j w e
  have hi : s.heap.IsTupleIter w.1 w.2 i := by
    have q := m.its j w e
    simpa [drawn] using q
  refine wpAny_nextOf_tuple_item hi h1 h2 fun h' hit hs => h h' ⟨fun k x ex => ?_, fun k x ex => ?_⟩ (.of hs)
  · by_cases hk : k = j
    · subst hk
      have : w = x := Option.some.inj (e.symm.trans ex)
      subst this
      simpa [drawn] using hit
    · have ne : x.1 ≠ w.1 := D.sep k j x w ex e hk
      have q := m.its k x ex
      have dr : drawn i (j + 1) k = drawn i j k := by
        unfold drawn
        by_cases h1 : k < j
        · rw [if_pos h1, if_pos (by omega)]
        · rw [if_neg h1, if_neg (by omega)]
      rw [dr]
      exact q.at fun ob y => hs.extBut _ _ ne y
  · obtain ⟨us, q1, q2⟩ := m.val k x ex
    exact ⟨us, q1.at fun ob y => hs.extBut _ _ (D.own x (wsAt ex) w (wsAt e)) y, q2⟩
end

section
variable {prog : Program} {W : World} {A : Around} {E : Value → Shared → Prop} {s : Shared} {z TI TO : Addr} {ws : List (Addr × Addr)} {i : Nat} {col : Nat → Value}
theorem updTup {T : Addr} {us : List Value} {x : Value} {k : Nat} {Q : Unit → Shared → Prop} (hT : s.heap.get? T = some (tCells us)) (lt : us.length ≤ 100)
    (h : ∀ h', h'.get? T = some (tCells (us.set k x)) → Heap.SameBut T s.heap h' → Q () { s with heap := h' }) : wpAny (model prog W) A (updateSeq T (·.setIfInBounds k x)) Q E s := by
  have sz : (100 : Nat) ≤ sizeLine := by decide
  refine wpAny_updateSeq hT rfl (h _ ?_ (Heap.SameBut.update ..)) (by simp; omega) (by simp; omega)
  rw [Heap.get?_update_self _ hT rfl]
  simp [Obj.mapSeq]
theorem dropAt {α : Type} {l : List α} {j : Nat} {x : α} {r : List α} (e : x :: r = l.drop j) : l[j]? = some x ∧ r = l.drop (j + 1) := by
  have h1 : (l.drop j)[0]? = some x := by rw [← e]; rfl
  refine ⟨by simpa using h1, ?_⟩
  have h2 : (l.drop j).drop 1 = r := by rw [← e]; rfl
  rw [← h2, List.drop_drop]
theorem dropNil {α : Type} {l : List α} {j : Nat} (e : [] = l.drop j) (h : j ≤ l.length) : j = l.length := by
  have := congrArg List.length e
  simp at this
  omega
/-- one turn: a new tuple of what the iterators gave -/
theorem zs_item {w0 : Addr × Addr} {wr : List (Addr × Addr)} (ew : ws = w0 :: wr) (D : ZsApart z TI TO ws) {c0 : Value} {f : Bool} {us : List Value} (hc : ToldC c0) (hz : s.heap.get? z = some (zCells c0 f TI TO)) (hTI : s.heap.get? TI = some (tCells (ws.map fun w => Value.ref w.1)))
    (hTO : s.heap.get? TO = some (tCells us)) (hl : us.length = ws.length) (lw : ws.length ≤ 100) (m : Mid ws i col 0 s.heap) {Q : Value → Shared → Prop}
    (h : ∀ c1 f1 us1 h', ToldC c1 → h'.get? z = some (zCells c1 f1 TI TO) → h'.get? TO = some (tCells us1) → us1.length = ws.length → Mid ws i col ws.length h' → h'.get? s.heap.objs.size = some (tCells ((List.range ws.length).map col)) → 
      (∀ c, c ∉ [z, TO] ++ ws.map (·.1) → ∀ o, s.heap.get? c = some o → h'.get? c = some o) → Q (.ref s.heap.objs.size) { s with heap := h' }) :
    wpAny (model prog W) A (Builtin.«zip.__next__» ⟨[.ref z], []⟩) (fun fin s' => ∃ v, fin = .done (.ret v) ∧ Q v s') E s := by
  have sz : (100 : Nat) ≤ sizeLine := by decide
  have zlt : z < s.heap.objs.size := Heap.lt_size hz
  have Tlt : TO < s.heap.objs.size := Heap.lt_size hTO
  have wlt : ∀ w ∈ ws, w.1 < s.heap.objs.size := fun w hw => by
    obtain ⟨k, hk⟩ := List.getElem?_of_mem hw
    obtain ⟨o, ho, _⟩ := m.its k w hk
    exact Heap.lt_size ho
  have outz : z ∉ ws.map (·.1) := fun q => by
    obtain ⟨w, hw, e⟩ := List.mem_map.mp q
    exact (D.out w hw).1 e
  have outT : TO ∉ ws.map (·.1) := fun q => by
    obtain ⟨w, hw, e⟩ := List.mem_map.mp q
    exact (D.out w hw).2.2.1 e
  have mem1 : ∀ {w}, w ∈ ws → ∀ c ∈ [w.1], c ∈ [z, TO] ++ ws.map (·.1) := fun hw c hc => by
    rw [List.mem_singleton.mp hc]
    exact List.mem_append_right _ (List.mem_map_of_mem hw)
  have mid : ∀ {j : Nat} {h h' : Heap} {cs : List Addr}, Mid ws i col j h → Spare cs h h' → (∀ c ∈ cs, c = z ∨ c = TO) → Mid ws i col j h' := fun m b l => Mid.but (D := D) m b l
  have push1 : ∀ (h : Heap) (o : Obj) (hf : o.isFreed = false), ∀ c ob, h.get? c = some ob → (h.push o).get? c = some ob := fun h o _ c ob e => Heap.get?_push_of_some _ e
  have tz : ∀ {b : List Addr} {h h' : Heap}, (∀ c ∈ b, c ∈ [z, TO] ++ ws.map (·.1)) → Spare ([z, TO] ++ ws.map (·.1)) s.heap h → Spare b h h' → Spare ([z, TO] ++ ws.map (·.1)) s.heap h' := fun hb a b => (Spare.trans a b).mono fun c hc => by
    rcases List.mem_append.mp hc with q | q
    · exact q
    · exact hb c q
  subst ew
  show wpAny _ _ (field (.ref z) 2 >>= _) _ _ _
  refine wpAny_bind (wpAny_field hz rfl (x := .bool false) rfl ?_)
  show wpAny _ _ (field (.ref z) 3 >>= _) _ _ _
  refine wpAny_bind (wpAny_field hz rfl (x := .ref TI) rfl ?_)
  refine wpAny_bind (wpAny_seqItems hTI rfl ?_)
  show wpAny _ _ (Builtin.SmallTypes.ownedTupleIsFree (.ref z) >>= _) _ _ _
  refine wpAny_bind (free_any hc hz fun b f1 h1 hz1 hs1 => ?_)
  have b1 : Spare ([z, TO] ++ (w0 :: wr).map (·.1)) s.heap h1 := (Spare.of hs1).mono fun c hc => by rw [List.mem_singleton.mp hc]; simp
  have m1 := mid m (Spare.of hs1) fun c hc => .inl (List.mem_singleton.mp hc)
  have hTO1 : h1.get? TO = some (tCells us) := hs1.extBut _ _ D.zTO.symm hTO
  generalize hws : w0 :: wr = ws at *
  cases b with
  | true =>
    simp only [if_true]
    refine wpAny_bind (wpAny_rule ?_)
    refine wpAny_bind (wpAny_field hz1 rfl (x := .ref TO) rfl ?_)
    refine wpAny_bind (wpAny_setField_rec hz1 (by simp) fun h2 hz2 hs2 => ?_)
    replace hz2 : h2.get? z = some (zCells .ellipsis f1 TI TO) := hz2
    replace hs2 : Heap.SameBut z h1 h2 := hs2
    have b2 := tz (b := [z]) (by simp) b1 (Spare.of hs2)
    have m2 := mid m1 (Spare.of hs2) fun c hc => .inl (List.mem_singleton.mp hc)
    have hTO2 : h2.get? TO = some (tCells us) := hs2.extBut _ _ D.zTO.symm hTO1
    refine wpAny_bind ?_
    refine wpAny_forIn_list _ (fun rest b s' => b = (none, ()) ∧ ∃ (j : Nat) (h3 : Heap) (us3 : List Value), s' = { s with heap := h3 } ∧ rest = (ws.map fun w => Value.ref w.1).zipIdx.drop j ∧ j ≤ ws.length ∧ h3.get? z = some (zCells .ellipsis f1 TI TO) ∧ h3.get? TO = some (tCells us3) ∧ us3.length = ws.length ∧
      (∀ k, k < j → us3[k]? = some (col k)) ∧ Mid ws i col j h3 ∧ Spare ([z, TO] ++ ws.map (·.1)) s.heap h3) _ ?_ ?_ _ _ ⟨rfl, 0, h2, us, rfl, rfl, by omega, hz2, hTO2, hl, fun k hk => by omega, m2, b2⟩
    · rintro x rest b s' ⟨rfl, j, h3, us3, rfl, er, hj, gz, gT, l3, hv, m3, b3⟩
      obtain ⟨ex, er2⟩ := dropAt er
      have hj2 : j < ws.length := by
        have := (List.getElem?_eq_some_iff.mp ex).1
        simpa using this
      have ewj : ws[j]? = some ws[j] := List.getElem?_eq_getElem hj2
      have exx : x = (Value.ref ws[j].1, j) := by
        simp [List.getElem?_zipIdx, hj2] at ex
        exact ex.symm
      subst exx
      refine wpAny_bind (wpAny_onRaise ?_)
      show wpAny _ _ (Builtin.SmallTypes.nextOf (.ref ws[j].1) >>= _) _ _ _
      refine wpAny_bind (draw1 (s := { s with heap := h3 }) D m3 ewj fun h4 m4 b4 => wpAny_pure ?_)
      replace b4 : Spare [ws[j].1] h3 h4 := b4
      have nz : z ∉ [ws[j].1] := fun q => (D.out _ (wsAt ewj)).1 (List.mem_singleton.mp q).symm
      have nT : TO ∉ [ws[j].1] := fun q => (D.out _ (wsAt ewj)).2.2.1 (List.mem_singleton.mp q).symm
      have gT4 := b4.2 _ nT _ gT
      have gz4 := b4.2 _ nz _ gz
      refine wpAny_bind (wpAny_seqItems (s := { s with heap := h4 }) gT4 rfl ?_)
      refine wpAny_bind (updTup (s := { s with heap := h4 }) gT4 (by omega) fun h5 gT5 hs5 => ?_)
      replace hs5 : Heap.SameBut TO h4 h5 := hs5
      refine wpAny_bind (wpAny_letGo (wpAny_pure ⟨rfl, j + 1, h5, _, rfl, er2, by omega, hs5.extBut _ _ D.zTO gz4, gT5, by simp [l3], fun k hk => ?_, mid m4 (Spare.of hs5) fun c hc => .inr (List.mem_singleton.mp hc), tz (by simp) (tz (mem1 (wsAt ewj)) b3 b4) (Spare.of hs5)⟩))
      by_cases ek : k = j
      · subst ek
        rw [List.getElem?_set_self (by omega)]
      · rw [List.getElem?_set_ne (by omega)]
        exact hv k (by omega)
    · rintro b s' ⟨rfl, j, h3, us3, rfl, er, hj, gz, gT, l3, hv, m3, b3⟩
      have ej : j = ws.length := by
        have := dropNil er (by simp; omega)
        simpa using this
      subst ej
      have eus : us3 = (List.range ws.length).map col := by
        apply List.ext_getElem?
        intro k
        by_cases hk : k < ws.length
        · rw [hv k hk]
          simp [hk]
        · rw [List.getElem?_eq_none (by omega), List.getElem?_eq_none (by simp; omega)]
      have sz3 : h3.objs.size = s.heap.objs.size := b3.1
      refine wpAny_bind (wpAny_seqItems (s := { s with heap := h3 }) gT rfl ?_)
      refine wpAny_bind (wpAny_newTuple (s := { s with heap := h3 }) ?_ (by simp; omega))
      show wpAny _ _ (Builtin.SmallTypes.ownedTupleHandOut (.ref z) (.ref h3.objs.size) >>= _) _ _ _
      refine wpAny_bind ?_
      unfold Builtin.SmallTypes.ownedTupleHandOut
      have gz4 : (h3.push (tCells us3)).get? z = some (zCells .ellipsis f1 TI TO) := Heap.get?_push_of_some _ gz
      refine wpAny_bind (wpAny_setField_rec (s := { s with heap := h3.push (tCells us3) }) gz4 (by simp) fun h5 gz5 hs5 => ?_)
      replace gz5 : h5.get? z = some (zCells (rawInt h3.objs.size) f1 TI TO) := gz5
      refine wpAny_setField_rec (s := { s with heap := h5 }) gz5 (by simp) fun h6 gz6 hs6 => ?_
      replace gz6 : h6.get? z = some (zCells (rawInt h3.objs.size) false TI TO) := gz6
      replace hs5 : Heap.SameBut z (h3.push (tCells us3)) h5 := hs5
      replace hs6 : Heap.SameBut z h5 h6 := hs6
      have up : ∀ c o, c ≠ z → h3.get? c = some o → h6.get? c = some o := fun c o cz e => hs6.extBut _ _ cz (hs5.extBut _ _ cz (Heap.get?_push_of_some _ e))
      have gN : h6.get? s.heap.objs.size = some (tCells us3) := by
        have nz : s.heap.objs.size ≠ z := Nat.ne_of_gt zlt
        refine hs6.extBut _ _ nz (hs5.extBut _ _ nz ?_)
        rw [← sz3]
        exact Heap.get?_push_size _ rfl
      refine wpAny_pure ⟨_, rfl, ?_⟩
      show Q (.ref h3.objs.size) _
      rw [eus] at gN
      have fin := h (rawInt h3.objs.size) false us3 h6 (.inr ⟨_, rfl⟩) gz6 (up _ _ D.zTO.symm gT) l3 ?_ gN ?_
      · rw [sz3]
        exact fin
      · refine ⟨fun k w e => ?_, fun k w e => ?_⟩
        · exact (m3.its k w e).at fun ob q => up _ _ (D.out w (wsAt e)).1 q
        · obtain ⟨vs, v1, v2⟩ := m3.val k w e
          exact ⟨vs, v1.at fun ob q => up _ _ (D.out w (wsAt e)).2.2.2.1 q, v2⟩
      · intro c hc o e
        exact up c o (fun q => hc (by simp [q])) (b3.2 c hc o e)
  | false =>
    simp only [Bool.false_eq_true, if_false]
    refine wpAny_bind ?_
    rw [← Array.forIn_toList]
    refine wpAny_forIn_list _ (fun rest b s' => ∃ (j : Nat) (h3 : Heap), b = (none, ((List.range j).map col).toArray) ∧ s' = { s with heap := h3 } ∧ rest = (ws.map fun w => Value.ref w.1).drop j ∧ j ≤ ws.length ∧ h3.get? z = some (zCells c0 f1 TI TO) ∧ h3.get? TO = some (tCells us) ∧
      Mid ws i col j h3 ∧ Spare ([z, TO] ++ ws.map (·.1)) s.heap h3) _ ?_ ?_ _ _ ⟨0, h1, rfl, rfl, by simp, by omega, hz1, hTO1, m1, b1⟩
    · rintro x rest b s' ⟨j, h3, rfl, rfl, er, hj, gz, gT, m3, b3⟩
      obtain ⟨ex, er2⟩ := dropAt er
      have hj2 : j < ws.length := by
        have := (List.getElem?_eq_some_iff.mp ex).1
        simpa using this
      have ewj : ws[j]? = some ws[j] := List.getElem?_eq_getElem hj2
      have exx : x = Value.ref ws[j].1 := by
        simp [hj2] at ex
        exact ex.symm
      subst exx
      refine wpAny_bind (wpAny_holding ?_)
      show wpAny _ _ (Builtin.SmallTypes.nextOf (.ref ws[j].1) >>= _) _ _ _
      refine wpAny_bind (draw1 (s := { s with heap := h3 }) D m3 ewj fun h4 m4 b4 => wpAny_pure ?_)
      replace b4 : Spare [ws[j].1] h3 h4 := b4
      have nz : z ∉ [ws[j].1] := fun q => (D.out _ (wsAt ewj)).1 (List.mem_singleton.mp q).symm
      have nT : TO ∉ [ws[j].1] := fun q => (D.out _ (wsAt ewj)).2.2.1 (List.mem_singleton.mp q).symm
      refine wpAny_pure ⟨j + 1, h4, ?_, rfl, er2, by omega, b4.2 _ nz _ gz, b4.2 _ nT _ gT, m4, tz (mem1 (wsAt ewj)) b3 b4⟩
      simp [List.range_succ]
    · rintro b s' ⟨j, h3, rfl, rfl, er, hj, gz, gT, m3, b3⟩
      have ej : j = ws.length := by
        have := dropNil er (by simp; omega)
        simpa using this
      subst ej
      have sz3 : h3.objs.size = s.heap.objs.size := b3.1
      refine wpAny_bind (wpAny_newTuple (s := { s with heap := h3 }) ?_ (by simp; omega))
      refine wpAny_pure ⟨_, rfl, ?_⟩
      have up : ∀ (o : Obj) c ob, h3.get? c = some ob → (h3.push o).get? c = some ob := fun o c ob e => Heap.get?_push_of_some _ e
      have fin := h c0 f1 us (h3.push (tCells ((List.range ws.length).map col))) hc (up _ _ _ gz) (up _ _ _ gT) hl ⟨fun k w e => (m3.its k w e).at fun ob q => up _ _ _ q, fun k w e => ?_⟩ ?_ fun c hc o e => up _ _ _ (b3.2 c hc o e)
      · show Q (.ref h3.objs.size) _
        rw [sz3]
        exact fin
      · obtain ⟨vs, v1, v2⟩ := m3.val k w e
        exact ⟨vs, v1.at fun ob q => up _ _ _ q, v2⟩
      · rw [← sz3]
        exact Heap.get?_push_size _ rfl
end

section
variable {prog : Program} {W : World} {A : Around} {E : Value → Shared → Prop} {s : Shared} {z TI TO : Addr} {ws : List (Addr × Addr)} {i : Nat}
/-- the first iterator has ended -/
theorem zs_end {w0 : Addr × Addr} {wr : List (Addr × Addr)} (ew : ws = w0 :: wr) (hh : A.handled = none) (D : ZsApart z TI TO ws) {c0 : Value} {f : Bool} (hc : ToldC c0) (hz : s.heap.get? z = some (zCells c0 f TI TO)) (hTI : s.heap.get? TI = some (tCells (ws.map fun w => Value.ref w.1)))
    {us : List Value} (hTO : s.heap.get? TO = some (tCells us)) (hi : s.heap.IsTupleIter w0.1 w0.2 i) {vs : Array Value} (hv : s.heap.IsTuple w0.2 vs) (hn : vs[i]? = none) {Q : Fin → Shared → Prop}
    (hE : ∀ h' e, (∀ c, c ∉ [z, TO] ++ ws.map (·.1) → ∀ o, s.heap.get? c = some o → h'.get? c = some o) → (∃ o, h'.get? e = some o ∧ o.cls = .type "StopIteration") → E (.ref e) { s with heap := h' }) :
    wpAny (model prog W) A (Builtin.«zip.__next__» ⟨[.ref z], []⟩) Q E s := by
  subst ew
  have o := D.out w0 (List.mem_cons_self ..)
  show wpAny _ _ (field (.ref z) 2 >>= _) _ _ _
  refine wpAny_bind (wpAny_field hz rfl (x := .bool false) rfl ?_)
  show wpAny _ _ (field (.ref z) 3 >>= _) _ _ _
  refine wpAny_bind (wpAny_field hz rfl (x := .ref TI) rfl ?_)
  refine wpAny_bind (wpAny_seqItems hTI rfl ?_)
  show wpAny _ _ (Builtin.SmallTypes.ownedTupleIsFree (.ref z) >>= _) _ _ _
  refine wpAny_bind (free_any hc hz fun b f1 h1 hz1 hs1 => ?_)
  cases b with
  | true =>
    simp only [if_true]
    refine wpAny_bind (wpAny_rule ?_)
    refine wpAny_bind (wpAny_field hz1 rfl (x := .ref TO) rfl ?_)
    refine wpAny_bind (wpAny_setField_rec hz1 (by simp) fun h2 hz2 hs2 => ?_)
    replace hz2 : h2.get? z = some (zCells .ellipsis f1 TI TO) := hz2
    replace hs2 : Heap.SameBut z h1 h2 := hs2
    have k2 : ∀ c, c ≠ z → ∀ ob, s.heap.get? c = some ob → h2.get? c = some ob := fun c hc ob e => hs2.extBut _ _ hc (hs1.extBut _ _ hc e)
    refine wpAny_bind ?_
    rw [List.map_cons, List.zipIdx_cons, List.forIn_cons]
    refine wpAny_bind (wpAny_bind (wpAny_onRaise ?_))
    show wpAny _ _ (Builtin.SmallTypes.nextOf (.ref w0.1) >>= _) _ _ _
    refine wpAny_bind (wpAny_nextOf_tuple_end (s := { s with heap := h2 }) hh (hi.at fun ob q => k2 _ o.1 ob q) (hv.at fun ob q => k2 _ o.2.2.2.1 ob q) hn fun h3 e hs3 he => ?_)
    have hz3 : h3.get? z = some (zCells .ellipsis f1 TI TO) := hs3 _ _ o.1.symm hz2
    refine wpAny_setField_rec (s := { s with heap := h3 }) hz3 (by simp) fun h4 hz4 hs4 => ?_
    replace hs4 : Heap.SameBut z h3 h4 := hs4
    obtain ⟨oe, e1, e2⟩ := he
    have ez : e ≠ z := fun q => by
      subst q
      rw [hz3] at e1
      cases e1
      injection e2 with q
      exact absurd q (by decide)
    refine hE h4 e (fun c hc ob y => ?_) ⟨oe, hs4.extBut _ _ ez e1, e2⟩
    have c1 : c ≠ z := fun q => hc (by simp [q])
    have c2 : c ≠ w0.1 := fun q => hc (by simp [q])
    exact hs4.extBut _ _ c1 (hs3 _ _ c2 (k2 c c1 ob y))
  | false =>
    simp only [Bool.false_eq_true, if_false]
    refine wpAny_bind ?_
    rw [← Array.forIn_toList]
    have k1 : ∀ c, c ≠ z → ∀ ob, s.heap.get? c = some ob → h1.get? c = some ob := fun c hc ob e => hs1.extBut _ _ hc e
    have e0 : ((w0 :: wr).map fun w => Value.ref w.1).toArray.toList = Value.ref w0.1 :: wr.map fun w => Value.ref w.1 := by simp
    rw [e0, List.forIn_cons]
    refine wpAny_bind (wpAny_bind (wpAny_holding ?_))
    show wpAny _ _ (Builtin.SmallTypes.nextOf (.ref w0.1) >>= _) _ _ _
    refine wpAny_bind (wpAny_nextOf_tuple_end (s := { s with heap := h1 }) hh (hi.at fun ob q => k1 _ o.1 ob q) (hv.at fun ob q => k1 _ o.2.2.2.1 ob q) hn fun h3 e hs3 he => ?_)
    refine hE h3 e (fun c hc ob y => ?_) he
    have c1 : c ≠ z := fun q => hc (by simp [q])
    have c2 : c ≠ w0.1 := fun q => hc (by simp [q])
    exact hs3 _ _ c2 (k1 c c1 ob y)
theorem zs_nextItem {Q : Option Value → Shared → Prop} {o : Obj} (hz : s.heap.get? z = some o) (hT : o.cls = .type "zip")
    (h : wpAny (model prog W) A.in1 (Builtin.«zip.__next__» ⟨[.ref z], []⟩) (fun fin s' => ∃ v, fin = .done (.ret v) ∧ Q (some v) s') (fun e s' => ∃ a, e = .ref a ∧ (∃ o, s'.heap.get? a = some o ∧ o.cls = .type "StopIteration") ∧ Q none s') s) : wpAny (model prog W) A (pyNext (.ref z)) Q E s := by
  have ty : s.TypeIs (.ref z) "zip" := ⟨_, hz, hT⟩
  unfold pyNext
  refine wpAny_bind (wpAny_attempt (wpAny_callSpecial?_slot (name := Str.ofString "__next__") ty F.slot_zip_next ?_))
  refine wpAny_call_entry F.slot_zip_next ty F.entry_zip_next ?_ (F.args_zip_next_1 _)
  refine wpAny_mono h (fun fin s1 ⟨v, e, q⟩ => ⟨v, e, wpAny_pure q⟩) fun e s1 ⟨a, ea, ⟨o, ho, hc⟩, q⟩ => ?_
  subst ea
  exact wpAny_bind (wpAny_isInstance (T := "StopIteration") (b := true) ⟨o, ho, hc⟩ isSubtype_stop (wpAny_pure q))
end

/-! ### it begins -/
theorem ntc1 (a : Value) : checkTypeCall "zip" ⟨[a], []⟩ = pure () := by kernel_rfl
theorem nnc1 (a : Value) : checkBuiltinCall "zip.__new__" ⟨[.type "zip", a], []⟩ = pure () := by kernel_rfl
section
variable {prog : Program} {W : World} {A : Around} {E : Value → Shared → Prop} {s : Shared}
/-- what stands behind the making of it: n the first new cell -/
structure Zs0 (h h' : Heap) (as : List Addr) : Prop where
  z : h'.get? (h.objs.size + as.length + 2) = some (zCells .none false (h.objs.size + as.length) (h.objs.size + as.length + 1))
  ti : h'.get? (h.objs.size + as.length) = some (tCells ((List.range as.length).map fun k => Value.ref (h.objs.size + k)))
  to : h'.get? (h.objs.size + as.length + 1) = some (tCells (as.map fun _ => Value.none))
  its : ∀ k a, as[k]? = some a → h'.IsTupleIter (h.objs.size + k) a 0
  keep : ∀ c o, h.get? c = some o → h'.get? c = some o
abbrev itO (a : Addr) : Obj := { cls := .type "tuple_iterator", data := .fields #[.ref a, .int 0 0] }
theorem meets_zs1 {a : Addr} {us : Array Value} :
    Meets (Builtin.«zip.__new__» ⟨[.type "zip", .ref a], []⟩) (fun _ R s => s.heap.IsTuple a us ∧ ∀ h', Zs0 s.heap h' [a] → R (.ok (.ret (.ref (s.heap.objs.size + 3)))) { s with heap := h' }) :=
  .of_wp fun prog w A R s h => by
    obtain ⟨hp, g, d, tk, os⟩ := s
    obtain ⟨h1, h⟩ := h
    have sub := sub_zip
    have step : ∀ {A' : Around} {E : Value → Shared → Prop} {Q : Value → Shared → Prop}, Q (.ref hp.objs.size) ⟨hp.push (itO a), g, d, tk, os⟩ → wpAny (model prog w) A' (pyIter (.ref a)) Q E ⟨hp, g, d, tk, os⟩ :=
      fun q => (begins_tuple a us).iter prog w _ _ ⟨hp, g, d, tk, os⟩ _ h1 q
    wp_walk using step
    refine ⟨_, rfl, ?_⟩
    have s1 : (hp.push (itO a)).objs.size = hp.objs.size + 1 := Heap.size_push ..
    have s2 : ((hp.push (itO a)).push (tCells [Value.ref hp.objs.size])).objs.size = hp.objs.size + 2 := by rw [Heap.size_push, s1]
    have s3 : (((hp.push (itO a)).push (tCells [Value.ref hp.objs.size])).push (tCells [Value.none])).objs.size = hp.objs.size + 3 := by rw [Heap.size_push, s2]
    have fin := h ((((hp.push (itO a)).push (tCells [Value.ref hp.objs.size])).push (tCells [Value.none])).push (zCells .none false (hp.push (itO a)).objs.size ((hp.push (itO a)).push (tCells [Value.ref hp.objs.size])).objs.size)) ⟨?_, ?_, ?_, fun k x e => ?_, fun c o e => ?_⟩
    · rw [← s3] at fin
      exact fin
    · show Heap.get? _ (hp.objs.size + 3) = some (zCells .none false (hp.objs.size + 1) (hp.objs.size + 2))
      rw [← s3, Heap.get?_push_size _ rfl, s1, s2]
    · show Heap.get? _ (hp.objs.size + 1) = some (tCells [Value.ref hp.objs.size])
      rw [← s1]
      exact Heap.get?_push_of_some _ (Heap.get?_push_of_some _ (Heap.get?_push_size _ rfl))
    · show Heap.get? _ (hp.objs.size + 2) = some (tCells [Value.none])
      rw [← s2]
      exact Heap.get?_push_of_some _ (Heap.get?_push_size _ rfl)
    · cases k with
      | zero =>
        have : a = x := by simpa using e
        subst this
        exact ⟨_, Heap.get?_push_of_some _ (Heap.get?_push_of_some _ (Heap.get?_push_of_some _ (Heap.get?_push_size _ rfl))), rfl, rfl⟩
      | succ k => simp at e
    · exact Heap.get?_push_of_some _ (Heap.get?_push_of_some _ (Heap.get?_push_of_some _ (Heap.get?_push_of_some _ e)))
/-- the call, of one to three tuples -/
theorem zs_starts {as : List Addr} (l1 : 1 ≤ as.length) (l3 : as.length ≤ 3) (ht : ∀ a ∈ as, ∃ us, s.heap.IsTuple a us) {Q : Value → Shared → Prop}
    (h : ∀ h', Zs0 s.heap h' as → Q (.ref (s.heap.objs.size + as.length + 2)) { s with heap := h' }) : wpAny (model prog W) A (call (.type "zip") (as.map Value.ref)) Q E s := by
  match as, l1, l3 with
  | [a], _, _ =>
    obtain ⟨us, hu⟩ := ht a (by simp)
    exact callType_new F.called_zip (by decide) (ntc1 _) (nnc1 _) (fun obj => F.args_object_init_2 obj _) F.entry_zip_new meets_zs1 ⟨hu, fun h' z => ⟨⟨_, z.z, rfl⟩, h h' z⟩⟩
  | [a, b], _, _ =>
    obtain ⟨us, hu⟩ := ht a (by simp)
    obtain ⟨vs, hv⟩ := ht b (by simp)
    refine zip_begins2 (begins_tuple a us) (begins_tuple b vs) hu hv fun h' hz hTI hTO g1 g2 hsz hk => h h' ⟨hz, hTI, hTO, fun k x e => ?_, hk⟩
    match k, e with
    | 0, e =>
      have : a = x := by simpa using e
      subst this
      exact ⟨_, g1, rfl, rfl⟩
    | 1, e =>
      have : b = x := by simpa using e
      subst this
      exact ⟨_, g2, rfl, rfl⟩
    | k + 2, e => simp at e
  | [a, b, c], _, _ =>
    obtain ⟨us, hu⟩ := ht a (by simp)
    obtain ⟨vs, hv⟩ := ht b (by simp)
    obtain ⟨xs, hx⟩ := ht c (by simp)
    refine zip_begins3 (begins_tuple a us) (begins_tuple b vs) (begins_tuple c xs) hu hv hx fun h' hz hTI hTO g1 g2 g3 hsz hk => h h' ⟨hz, hTI, hTO, fun k x e => ?_, hk⟩
    match k, e with
    | 0, e =>
      have : a = x := by simpa using e
      subst this
      exact ⟨_, g1, rfl, rfl⟩
    | 1, e =>
      have : b = x := by simpa using e
      subst this
      exact ⟨_, g2, rfl, rfl⟩
    | 2, e =>
      have : c = x := by simpa using e
      subst this
      exact ⟨_, g3, rfl, rfl⟩
    | k + 3, e => simp at e
  | _ :: _ :: _ :: _ :: _, _, l => exact absurd l (by simp)
end
end LW

namespace LW
open PySem PySem.Spec PyProof.Rows L2

/-- the i-th of each -/
def colV (xss : List (List V)) (i : Nat) : List V := xss.map (·.getD i .non)
/-- the tuples at the addresses as: the lists xss -/
abbrev TupsIn (K : PySem.W.Frag) (H : Hp) (as : List Addr) (xss : List (List V)) : Prop := Paired (SqT K H) as xss
def ItS (K : PySem.W.Frag) (as : List Addr) : It :=
  ⟨fun i H => ∃ xss : List (List V), TupsIn K H as xss ∧ ∀ xs ∈ xss, i < xs.length,
    fun i H v H' => ∃ T, v = .ref T ∧ H T = none ∧ ∀ xss, TupsIn K H as xss → H' = upd H T (.tup (colV xss i)),
    fun i H => ∃ xss : List (List V), TupsIn K H as xss ∧ ∀ xs ∈ xss, xs.length = i⟩
/-- the iterators' cells from n on, beside what they walk -/
def cellsOf : Nat → List Addr → List (Addr × Addr)
  | _, [] => []
  | n, a :: r => (n, a) :: cellsOf (n + 1) r
theorem cellsLen : ∀ (n : Nat) (as : List Addr), (cellsOf n as).length = as.length
  | _, [] => rfl
  | n, _ :: r => by simp [cellsOf, cellsLen (n + 1) r]
theorem cellsAt : ∀ (n : Nat) (as : List Addr) (k : Nat) (w : Addr × Addr), (cellsOf n as)[k]? = some w → w.1 = n + k ∧ as[k]? = some w.2
  | _, [], k, w, e => by simp [cellsOf] at e
  | n, a :: r, 0, w, e => by
    have : (n, a) = w := by simpa [cellsOf] using e
    subst this
    exact ⟨rfl, rfl⟩
  | n, a :: r, k + 1, w, e => by
    have q := cellsAt (n + 1) r k w (by simpa [cellsOf] using e)
    refine ⟨?_, by simpa using q.2⟩
    have := q.1
    have e2 : (n + 1 + k : Nat) = n + (k + 1) := by omega
    rw [this]
    exact e2
theorem cellsFst : ∀ (n : Nat) (as : List Addr), (cellsOf n as).map (fun w => Value.ref w.1) = (List.range as.length).map fun k => Value.ref (n + k)
  | _, [] => rfl
  | n, a :: r => by
    rw [cellsOf, List.map_cons, cellsFst (n + 1) r, List.length_cons, List.range_succ_eq_map, List.map_cons, List.map_map]
    congr 1
    apply List.map_congr_left
    intro k _
    show Value.ref (n + 1 + k : Nat) = Value.ref (n + (k + 1) : Nat)
    exact congrArg Value.ref (show (n + 1 + k : Nat) = n + (k + 1) by omega)
theorem cellsApart {n : Nat} {as : List Addr} (h : ∀ a ∈ as, a < n) : ZsApart (n + as.length + 2) (n + as.length) (n + as.length + 1) (cellsOf n as) := by
  have key : ∀ w ∈ cellsOf n as, n ≤ w.1 ∧ w.1 < n + as.length ∧ w.2 < n := fun w hw => by
    obtain ⟨k, hk⟩ := List.getElem?_of_mem hw
    obtain ⟨e1, e2⟩ := cellsAt n as k w hk
    have l := (List.getElem?_eq_some_iff.mp e2).1
    rw [e1]
    exact ⟨Nat.le_add_right .., Nat.add_lt_add_left l n, h _ (List.mem_of_getElem? e2)⟩
  have lt1 : ∀ m : Nat, m < m + 1 := fun m => Nat.lt_succ_self m
  refine ⟨Nat.ne_of_gt (Nat.lt_of_lt_of_le (lt1 _) (Nat.le_add_right _ 1)), Nat.ne_of_gt (lt1 _), Nat.ne_of_lt (lt1 _), fun w hw => ?_, fun w hw x hx => ?_, fun j k w x ew ex ne e => ?_⟩
  · obtain ⟨h1, h2, h3⟩ := key w hw
    exact ⟨Nat.ne_of_lt (Nat.lt_of_lt_of_le h2 (Nat.le_add_right _ 2)), Nat.ne_of_lt h2, Nat.ne_of_lt (Nat.lt_of_lt_of_le h2 (Nat.le_add_right _ 1)),
      Nat.ne_of_lt (Nat.lt_of_lt_of_le h3 (Nat.le_trans (Nat.le_add_right n _) (Nat.le_add_right _ 2))), Nat.ne_of_lt (Nat.lt_of_lt_of_le h3 (Nat.le_trans (Nat.le_add_right n _) (Nat.le_add_right _ 1)))⟩
  · exact Nat.ne_of_lt (Nat.lt_of_lt_of_le (key w hw).2.2 (key x hx).1)
  · exact ne (Nat.add_left_cancel ((cellsAt n as j w ew).1.symm.trans (e.trans (cellsAt n as k x ex).1)))

def ZsSt (z TI TO : Addr) (ws : List (Addr × Addr)) (i : Nat) (h : Heap) : Prop :=
  ∃ (c0 : Value) (f : Bool) (us : List Value), ToldC c0 ∧ h.get? z = some (zCells c0 f TI TO) ∧ h.get? TI = some (tCells (ws.map fun w => Value.ref w.1)) ∧ h.get? TO = some (tCells us) ∧ us.length = ws.length ∧ ∀ (k : Nat) (w : Addr × Addr), ws[k]? = some w → h.IsTupleIter w.1 w.2 i

/-- what stands in the tuples, item i -/
theorem colsOf {X : Cx} {pins : List (Addr × Obj)} {σ : L2.St} {H : Hp} {s : Shared} {i : Nat} (I : Inv X pins σ H s) : ∀ {as : List Addr} {xss : List (List V)}, TupsIn X.K H as xss → (∀ xs ∈ xss, i < xs.length) →
    ∃ cs : List Value, Vals (colV xss i) cs ∧ ∀ (k : Nat) a, as[k]? = some a → ∃ us : Array Value, s.heap.IsTuple a us ∧ us[i]? = some (cs.getD k .none)
  | [], [], _, _ => ⟨[], .nil, fun k a e => by simp at e⟩
  | a0 :: r, xs :: xr, .cons r0 t, h => by
    obtain ⟨cs, h1, h2⟩ := colsOf I t fun ys hy => h ys (List.mem_cons_of_mem _ hy)
    obtain ⟨its, rv, p, _⟩ := I.tuple r0
    have hi := h xs (List.mem_cons_self ..)
    obtain ⟨u, hu, ru⟩ := rv.get (List.getElem?_eq_getElem hi)
    refine ⟨u :: cs, .cons (by simpa [List.getD, hi] using ru) h1, fun k a e => ?_⟩
    cases k with
    | zero =>
      have : a0 = a := by simpa using e
      subst this
      exact ⟨its.toArray, p, by simpa using hu⟩
    | succ k =>
      obtain ⟨us, q1, q2⟩ := h2 k a (by simpa using e)
      exact ⟨us, q1, by simpa using q2⟩
theorem tupsInj {X : Cx} {pins : List (Addr × Obj)} {σ : L2.St} {H : Hp} {s : Shared} (I : Inv X pins σ H s) : ∀ {as : List Addr} {xss yss : List (List V)}, TupsIn X.K H as xss → TupsIn X.K H as yss → xss = yss
  | _, _, _, .nil, .nil => rfl
  | _, _, _, .cons r t, .cons r' t' => by rw [I.tuple_inj r r', tupsInj I t t']

theorem selfIter {prog : Program} {W : World} {A : Around} {E : Value → Shared → Prop} {s : Shared} {z : Addr} {c0 : Value} {f : Bool} {TI TO : Addr} {Q : Value → Shared → Prop} (hz : s.heap.get? z = some (zCells c0 f TI TO)) (h : Q (.ref z) s) : wpAny (model prog W) A (pyIter (.ref z)) Q E s := by
  have ty : s.TypeIs (.ref z) "zip" := ⟨_, hz, rfl⟩
  exact wpAny_pyIter_slot ty F.slot_zip_iter (wpAny_call_entry F.slot_zip_iter ty F.entry_zip_iter (wpAny_pure ⟨_, rfl, _, _, ty, F.slot_zip_next.lookup, h⟩) (F.args_zip_iter_1 _))
theorem fpS {z TI TO c : Addr} {ws : List (Addr × Addr)} (h : c ∈ [z, TI, TO] ++ ws.map (·.1)) : c = z ∨ c = TI ∨ c = TO ∨ ∃ w ∈ ws, w.1 = c := by
  rcases List.mem_append.mp h with q | q
  · have : c = z ∨ c = TI ∨ c = TO := by simpa using q
    rcases this with e | e | e
    · exact .inl e
    · exact .inr (.inl e)
    · exact .inr (.inr (.inl e))
  · exact .inr (.inr (.inr (List.mem_map.mp q)))
theorem turnS {P : Program} {w : World} {K : PySem.W.Frag} {x : Str} {pos : Pos} {z TI TO : Addr} {ws : List (Addr × Addr)} {w0 : Addr × Addr} {wr : List (Addr × Addr)} (ew : ws = w0 :: wr) (lw : ws.length ≤ 100) (D : ZsApart z TI TO ws) :
    Turn P w K (.Name x pos) (ItS K (ws.map (·.2))) ([z, TI, TO] ++ ws.map (·.1)) z (ZsSt z TI TO ws) where
  mem := by simp
  obj := by
    intro i h st d hd
    obtain ⟨c0, f, us, hc, hz, hI, hO, hl, hi⟩ := st
    rcases fpS hd with rfl | rfl | rfl | ⟨v, hv, rfl⟩
    · exact ⟨_, hz, fun v q => nomatch q⟩
    · exact ⟨_, hI, fun v q => nomatch q⟩
    · exact ⟨_, hO, fun v q => nomatch q⟩
    · obtain ⟨k, hk⟩ := List.getElem?_of_mem hv
      obtain ⟨o, ho, _, hd⟩ := hi k v hk
      exact ⟨o, ho, fun v q => by rw [hd] at q; cases q⟩
  keep := by
    intro i h h' st k
    obtain ⟨c0, f, us, hc, hz, hI, hO, hl, hi⟩ := st
    refine ⟨c0, f, us, hc, k z (by simp) _ hz, k TI (by simp) _ hI, k TO (by simp) _ hO, hl, fun j v e => (hi j v e).at fun o q => k v.1 ?_ o q⟩
    exact List.mem_append_right _ (List.mem_map_of_mem (wsAt e))
  item := by
    intro X hP hw hK hcalm i pins s σ H E I hf st hg
    subst hP hw hK
    obtain ⟨c0, f, us, hc, hz, hI, hO, hl, hi⟩ := st
    obtain ⟨xss, hx, hlt⟩ := hg
    obtain ⟨cs, rv, hcs⟩ := colsOf I hx hlt
    have lx : xss.length = ws.length := by
      have := Paired.length hx
      simpa using this.symm
    have lc : cs.length = ws.length := by
      have := rv.length
      simp [colV] at this
      omega
    have m : Mid ws i (fun k => cs.getD k .none) 0 s.heap := by
      refine ⟨fun k v e => by simpa [drawn] using hi k v e, fun k v e => ?_⟩
      exact hcs k v.2 (by simp [e])
    have ecs : (List.range ws.length).map (fun k => cs.getD k .none) = cs := by
      apply List.ext_getElem?
      intro k
      by_cases hk : k < ws.length
      · have : k < cs.length := by omega
        simp [hk, this]
      · rw [List.getElem?_eq_none (by simp; omega), List.getElem?_eq_none (by omega)]
    refine zs_nextItem hz rfl ?_
    refine wpAny_mono (zs_item ew D hc hz hI hO hl lw m (Q := fun v s' => v = .ref s.heap.objs.size ∧ ∃ x H', Inv X pins σ H' s' ∧ RelV x v ∧ (ItS X.K (ws.map (·.2))).yld i H x H' ∧ ZsSt z TI TO ws (i + 1) s'.heap ∧ ∀ b ∈ [z, TI, TO] ++ ws.map (·.1), H' b = none) fun c1 f1 us1 h' hc1 gz gO l1 m1 gN hk => ?_) (fun fin s1 ⟨v, e, q⟩ => ⟨v, e, v, rfl, wpAny_pure q.2⟩) fun e s1 q => q
    rw [ecs] at gN
    have TIn : TI ∉ [z, TO] ++ ws.map (·.1) := fun q => by
      rcases List.mem_append.mp q with q | q
      · have : TI = z ∨ TI = TO := by simpa using q
        rcases this with e | e
        · exact D.zTI e.symm
        · exact D.TITO e
      · obtain ⟨v, hv, e⟩ := List.mem_map.mp q
        exact (D.out v hv).2.1 e
    have new : ObjOk X.prog X.w (upd H s.heap.objs.size (.tup (colV xss i))) h' s.heap.objs.size (.tup (colV xss i)) :=
      ⟨by show (colV xss i).length ≤ sizeLine; have sz : (100 : Nat) ≤ sizeLine := by decide
          simp [colV]; omega, cs, rv, ⟨_, gN, rfl, _, rfl⟩⟩
    have I1 : Inv X pins σ (upd H s.heap.objs.size (.tup (colV xss i))) { s with heap := h', toks := s.toks } :=
      I.turnedNew (t' := s.toks) (ch := [z, TI, TO] ++ ws.map (·.1)) (fun d o nd q => hk d (fun y => nd (by
        rcases List.mem_append.mp y with y | y
        · have : d = z ∨ d = TO := by simpa using y
          rcases this with e | e <;> simp [e]
        · exact List.mem_append_right _ y)) o q) hf (Nat.le_refl _) new
    refine ⟨rfl, .ref s.heap.objs.size, _, I1, rfl, ⟨_, rfl, I.hok.fresh (Nat.le_refl _), fun yss hy => by rw [tupsInj I hy hx]⟩, ⟨c1, f1, us1, hc1, gz, hk _ TIn _ hI, gO, l1, fun k v e => ?_⟩, fun d hd => ?_⟩
    · have q := m1.its k v e
      have : k < ws.length := (List.getElem?_eq_some_iff.mp e).1
      simpa [drawn, this] using q
    · have dl : d < s.heap.objs.size := by
        rcases fpS hd with rfl | rfl | rfl | ⟨v, hv, rfl⟩
        · exact Heap.lt_size hz
        · exact Heap.lt_size hI
        · exact Heap.lt_size hO
        · obtain ⟨k, hk⟩ := List.getElem?_of_mem hv
          obtain ⟨o, ho, _⟩ := hi k v hk
          exact Heap.lt_size ho
      rw [upd_ne (Nat.ne_of_lt dl)]
      exact (hf d hd).1
  done := by
    intro X hP hw hK hcalm i pins s σ H E I hf st hg
    subst hP hw hK
    obtain ⟨c0, f, us, hc, hz, hI, hO, hl, hi⟩ := st
    obtain ⟨xss, hx, hlt⟩ := hg
    subst ew
    cases hx with
    | cons r0 t =>
    obtain ⟨its, rv, p, _⟩ := I.tuple r0
    have l0 := hlt _ (List.mem_cons_self ..)
    have lr := rv.length
    refine zs_nextItem hz rfl (zs_end (A := X.A.in1) rfl (I.ok.hd hcalm) D hc hz hI hO (hi 0 w0 rfl) p (by simp; omega) fun h' e hk he => ?_)
    refine ⟨e, rfl, he, rfl, ?_⟩
    exact I.turnedL (t' := s.toks) (ch := [z, TI, TO] ++ (w0 :: wr).map (·.1)) (fun d o nd q => hk d (fun y => nd (by
        rcases List.mem_append.mp y with y | y
        · have : d = z ∨ d = TO := by simpa using y
          rcases this with e | e <;> simp [e]
        · exact List.mem_append_right _ y)) o q) hf
  self := fun A i s Q E st h => by
    obtain ⟨c0, f, us, hc, hz, _⟩ := st
    exact selfIter hz h
theorem callWith_tyS {M : Model} {A : Around} {E : Value → Shared → Prop} {s : Shared} {env : Env} {pos p : Pos} {T : String} {e : Expr} {Q : Value → Shared → Prop}
    (h : wpAny M A (eval e env) (fun v s1 => PySem.W.StarOf M A E v (fun vs s2 => wpAny M A (call (.type T) vs) Q E s2) s1) E s) (he : starEach [.Starred e p] env = [(true, eval e env)]) :
    wpAny M A (callWith pos (.type T) [] (backTo pos (starEach [.Starred e p] env)) []) Q E s := by
  rw [he]
  exact PySem.W.ks_call (P := fun _ => True) rfl (fun h _ => ⟨.machine, .inr (.inl rfl), PySem.W.Looks.of_pure rfl⟩) (PySem.W.ks_lone (PySem.wpAny_mono h (fun v s1 q => PySem.wpAny_mono q (fun b s2 q2 => ⟨q2.1, PySem.wpAny_mono q2.2 (fun vs s3 q3 => ⟨trivial, q3⟩) fun _ _ x => x⟩) fun _ _ x => x) fun _ _ x => x))
def iZS (K : PySem.W.Frag) (te : TE) : TI := fun σ H R => te σ H fun v H1 => ∃ (p : Addr) (as : List Addr) (xss : List (List V)), v = .ref p ∧ (SqT K H1 p (as.map V.ref) ∨ SqL K H1 p (as.map V.ref)) ∧ TupsIn K H1 as xss ∧ 1 ≤ as.length ∧ as.length ≤ 3 ∧ R (ItS K as) H1
theorem valsRefs : ∀ {as : List Addr} {us : List Value}, Vals (as.map V.ref) us → us = as.map Value.ref
  | [], _, .nil => rfl
  | a :: r, _, .cons h t => by
    have e : _ = Value.ref a := h
    rw [e, valsRefs t]
    rfl
theorem cellsSnd : ∀ (n : Nat) (as : List Addr), (cellsOf n as).map (·.2) = as
  | _, [] => rfl
  | n, a :: r => by rw [cellsOf, List.map_cons, cellsSnd (n + 1) r]
theorem piZS {X : Cx} {e : Expr} {te : TE} {x : Str} {p sp pos tpos : Pos} (hg : Gl X "zip") (hm : X.mg "zip" = none) (he : PE X e te) (hs : starEach [.Starred e sp] X.env = [(true, eval e X.env)] := by rfl) :
    PI X (.Name x tpos) (.Call (.Name "zip" p) [.Starred e sp] [] pos) (iZS X.K te) := by
  constructor
  intro pins s σ H R I h
  refine Call_ (ld_blt I hg hm PyProof.Rows.boot_zip (callWith_tyS (thn (he.run pins s σ H _ I h) fun u s1 hyp => ?_) hs))
  obtain ⟨v, H1, I1, r1, a, as, xss, rfl, hl, hx, l1, l3, q⟩ := hyp
  obtain rfl : u = Value.ref a := r1
  refine StX.star_any I1 hl fun us s2 I2 rv => ?_
  have eus := valsRefs rv
  subst eus
  have tup : ∀ b ∈ as, ∃ us : Array Value, s2.heap.IsTuple b us ∧ b < s2.heap.objs.size := by
    have key : ∀ {as : List Addr} {xss : List (List V)}, TupsIn X.K H1 as xss → ∀ b ∈ as, ∃ us : Array Value, s2.heap.IsTuple b us ∧ b < s2.heap.objs.size := by
      intro as xss hx
      induction hx with
      | nil => intro b hb; cases hb
      | cons r t ih =>
        intro b hb
        rcases List.mem_cons.mp hb with e | hb
        · subst e
          obtain ⟨its, rv, p, _⟩ := I2.tuple r
          obtain ⟨o, ho, _⟩ := id p
          exact ⟨_, p, Heap.lt_size ho⟩
        · exact ih b hb
    exact key hx
  refine zs_starts l1 l3 (fun b hb => (tup b hb).imp fun _ q => q.1) fun h' z => wpAny_pyIter_zip z.z ?_
  have D : ZsApart _ _ _ (cellsOf s2.heap.objs.size as) := cellsApart (n := s2.heap.objs.size) fun b hb => by
    obtain ⟨_, _, l⟩ := tup b hb
    exact l
  have lc := cellsLen s2.heap.objs.size as
  obtain ⟨w0, wr, ew⟩ : ∃ w0 wr, cellsOf s2.heap.objs.size as = w0 :: wr := by
    match as, l1 with
    | a :: r, _ => exact ⟨_, _, rfl⟩
  have T := turnS (P := X.prog) (w := X.w) (K := X.K) (x := x) (pos := tpos) ew (by omega) D
  rw [cellsSnd] at T
  refine ⟨_, _, _, _, H1, rfl, I2.kept (t' := s2.toks) z.keep, T, ⟨.none, false, _, .inl rfl, z.z, ?_, z.to, by simp [lc], fun k w e => ?_⟩, fun d hd => ?_, q⟩
  · rw [cellsFst]
    exact z.ti
  · obtain ⟨e1, e2⟩ := cellsAt _ _ _ _ e
    rw [e1]
    exact z.its k w.2 e2
  · have hle : s2.heap.objs.size ≤ d := by
      rcases fpS hd with rfl | rfl | rfl | ⟨v, hv, rfl⟩
      · exact Nat.le_trans (Nat.le_add_right _ _) (Nat.le_add_right _ 2)
      · exact Nat.le_add_right _ _
      · exact Nat.le_trans (Nat.le_add_right _ _) (Nat.le_add_right _ 1)
      · obtain ⟨k, hk⟩ := List.getElem?_of_mem hv
        rw [(cellsAt _ _ _ _ hk).1]
        exact Nat.le_add_right _ _
    exact I2.fpOk hle (I2.hok.fresh hle)
/-- what a walk over it gives -/
def YCol (xss : List (List V)) : Nat → Hp → V → Hp → Prop := fun i H v H' => ∃ T, v = .ref T ∧ H T = none ∧ H' = upd H T (.tup (colV xss i))
theorem walkS {K : PySem.W.Frag} {as : List Addr} {xss : List (List V)} {n : Nat} (hn : ∀ xs ∈ xss, xs.length = n) : Walk (ItS K as) n (fun H => TupsIn K H as xss) (YCol xss) :=
  ⟨fun i H hi h => ⟨xss, h, fun xs hx => by rw [hn xs hx]; exact hi⟩, fun H h => ⟨xss, h, hn⟩, fun i H v H' hi h y => by
    obtain ⟨T, e1, e2, e3⟩ := y
    exact ⟨T, e1, e2, e3 xss h⟩⟩
theorem kZS {X : Cx} {K : PySem.W.Frag} {e : Expr} {te : TE} {x : Str} {p sp pos tpos : Pos} (h : X.K = K) (hg : Gl X "zip") (hm : X.mg "zip" = none) (he : PE X e te) (hs : starEach [.Starred e sp] X.env = [(true, eval e X.env)] := by rfl) :
    PI X (.Name x tpos) (.Call (.Name "zip" p) [.Starred e sp] [] pos) (iZS K te) := by subst h; exact piZS hg hm he hs
end LW

/-! list(enumerate(l)) of a list l. -/
namespace LW
open PySem PySem.Spec PyProof.Rows L2

abbrev eCells (c0 : Value) (f : Bool) (it : Addr) (i : Nat) (old : Value) : Obj := { cls := .type "enumerate", dict := none, data := .fields #[c0, .bool f, .ref it, rawInt (i : Int), .none, old], slots := #[] }
section
variable {prog : Program} {W : World} {A : Around} {E : Value → Shared → Prop} {s : Shared} {e it l : Addr}
theorem freeE_any {c0 old : Value} {f : Bool} {i : Nat} {Q : Bool → Shared → Prop} (hc : ToldC c0) (he : s.heap.get? e = some (eCells c0 f it i old))
    (h : ∀ b f' h', h'.get? e = some (eCells c0 f' it i old) → Heap.SameBut e s.heap h' → Q b { s with heap := h' }) : wpAny (model prog W) A (Builtin.SmallTypes.ownedTupleIsFree (.ref e)) Q E s := by
  unfold Builtin.SmallTypes.ownedTupleIsFree
  rcases hc with rfl | ⟨T, rfl⟩
  · exact wpAny_bind (wpAny_field he rfl (x := .none) rfl (wpAny_pure (h true f s.heap he (Heap.SameBut.refl _ _))))
  · refine wpAny_bind (wpAny_field he rfl (x := rawInt T) rfl ?_)
    show wpAny _ _ (loadIfAlive ((T : Int).toNat) >>= _) _ _ _
    refine wpAny_bind (loadAny ?_)
    cases s.heap.get? (T : Int).toNat with
    | none => exact wpAny_pure (h true f s.heap he (Heap.SameBut.refl _ _))
    | some o =>
      refine wpAny_bind (wpAny_field he rfl (x := .bool f) rfl ?_)
      cases f with
      | true => exact wpAny_pure (h false true s.heap he (Heap.SameBut.refl _ _))
      | false => exact wpAny_bind (wpAny_setField_rec he (by simp) fun h1 he1 hs1 => wpAny_pure (h false true h1 he1 hs1))
/-- one turn -/
theorem en_item {c0 old : Value} {f : Bool} {i : Nat} {items : Array Value} {x : Value} (hc : ToldC c0) (he : s.heap.get? e = some (eCells c0 f it i old)) (hit : s.heap.IsListIter it l i) (hl : s.heap.IsList l items) (hx : items[i]? = some x) (ne : e ≠ it) {Q : Value → Shared → Prop}
    (h : ∀ c1 f1 old1 h', ToldC c1 → h'.get? e = some (eCells c1 f1 it (i + 1) old1) → h'.IsListIter it l (i + 1) → h'.get? s.heap.objs.size = some (tCells [.int (i : Int) s.toks, x]) → (∀ b, b ≠ e → b ≠ it → ∀ o, s.heap.get? b = some o → h'.get? b = some o) → Q (.ref s.heap.objs.size) { s with heap := h', toks := s.toks + 1 }) :
    wpAny (model prog W) A (Builtin.«enumerate.__next__» ⟨[.ref e], []⟩) (fun fin s' => ∃ v, fin = .done (.ret v) ∧ Q v s') E s := by
  obtain ⟨hp, g, d, tk, os⟩ := s
  have lt : e < hp.objs.size := Heap.lt_size he
  show wpAny _ _ (field (.ref e) 2 >>= _) _ _ _
  refine wpAny_bind (wpAny_field he rfl (x := .ref it) rfl ?_)
  refine wpAny_bind (wpAny_nextOf_list_item hit hl hx fun h1 hit1 hs1 => ?_)
  replace hs1 : Heap.SameBut it hp h1 := hs1
  have he1 : h1.get? e = some (eCells c0 f it i old) := (hs1.2 e ne).trans he
  show wpAny _ _ (field (.ref e) 3 >>= _) _ _ ⟨h1, g, d, tk, os⟩
  refine wpAny_bind (wpAny_field he1 rfl (x := rawInt (i : Int)) rfl ?_)
  show wpAny _ _ (field (.ref e) 4 >>= _) _ _ ⟨h1, g, d, tk, os⟩
  refine wpAny_bind (wpAny_field he1 rfl (x := .none) rfl ?_)
  show wpAny _ _ (mkInt (i : Int) >>= _) _ _ ⟨h1, g, d, tk, os⟩
  refine wpAny_bind (wpAny_mkInt ?_)
  show wpAny _ _ (setField (.ref e) 3 (rawInt ((i : Int) + 1)) >>= _) _ _ ⟨h1, g, d, tk + 1, os⟩
  refine wpAny_bind (wpAny_setField_rec he1 (by simp) fun h2 he2 hs2 => ?_)
  replace hs2 : Heap.SameBut e h1 h2 := hs2
  replace he2 : h2.get? e = some (eCells c0 f it (i + 1) old) := he2
  show wpAny _ _ (setField (.ref e) 4 .none >>= _) _ _ ⟨h2, g, d, tk + 1, os⟩
  refine wpAny_bind (wpAny_setField_rec he2 (by simp) fun h3 he3 hs3 => ?_)
  replace hs3 : Heap.SameBut e h2 h3 := hs3
  replace he3 : h3.get? e = some (eCells c0 f it (i + 1) old) := he3
  show wpAny _ _ (newTuple [.int (i : Int) tk, x] >>= _) _ _ ⟨h3, g, d, tk + 1, os⟩
  refine wpAny_bind (wpAny_newTuple ?_)
  have sz : h3.objs.size = hp.objs.size := by rw [hs3.1, hs2.1, hs1.1]
  have up3 : ∀ b, b ≠ e → b ≠ it → ∀ o, hp.get? b = some o → h3.get? b = some o := fun b n1 n2 o q => hs3.extBut _ _ n1 (hs2.extBut _ _ n1 (hs1.extBut _ _ n2 q))
  have hit3 : h3.IsListIter it l (i + 1) := by
    obtain ⟨o, q, r⟩ := hit1
    exact ⟨o, hs3.extBut _ _ ne.symm (hs2.extBut _ _ ne.symm q), r⟩
  have he4 : (h3.push (tCells [.int (i : Int) tk, x])).get? e = some (eCells c0 f it (i + 1) old) := Heap.get?_push_of_some _ he3
  have gT : (h3.push (tCells [.int (i : Int) tk, x])).get? hp.objs.size = some (tCells [.int (i : Int) tk, x]) := by
    rw [← sz]
    exact Heap.get?_push_size _ rfl
  have hit4 : (h3.push (tCells [.int (i : Int) tk, x])).IsListIter it l (i + 1) := by
    obtain ⟨o, q, r⟩ := hit3
    exact ⟨o, Heap.get?_push_of_some _ q, r⟩
  have up4 : ∀ b, b ≠ e → b ≠ it → ∀ o, hp.get? b = some o → (h3.push (tCells [.int (i : Int) tk, x])).get? b = some o := fun b n1 n2 o q => Heap.get?_push_of_some _ (up3 b n1 n2 o q)
  show wpAny _ _ (Builtin.SmallTypes.ownedTupleIsFree (.ref e) >>= _) _ _ ⟨h3.push (tCells [.int (i : Int) tk, x]), g, d, tk + 1, os⟩
  rw [sz]
  generalize h3.push (tCells [.int (i : Int) tk, x]) = h4 at *
  have eT : hp.objs.size ≠ e := Nat.ne_of_gt lt
  refine wpAny_bind (freeE_any (s := ⟨h4, g, d, tk + 1, os⟩) hc he4 fun b f5 h5 he5 hs5 => ?_)
  replace hs5 : Heap.SameBut e h4 h5 := hs5
  have hit5 : h5.IsListIter it l (i + 1) := by
    obtain ⟨o, q, r⟩ := hit4
    exact ⟨o, hs5.extBut _ _ ne.symm q, r⟩
  cases b with
  | false =>
    simp only [Bool.false_eq_true, if_false]
    exact wpAny_pure ⟨_, rfl, h c0 f5 old h5 hc he5 hit5 (hs5.extBut _ _ eT gT) fun b n1 n2 o q => hs5.extBut _ _ n1 (up4 b n1 n2 o q)⟩
  | true =>
    simp only [if_true]
    refine wpAny_bind (wpAny_rule ?_)
    refine wpAny_bind (wpAny_field he5 rfl (x := old) rfl ?_)
    refine wpAny_bind (wpAny_setField_rec he5 (by simp) fun h6 he6 hs6 => ?_)
    replace he6 : h6.get? e = some (eCells c0 f5 it (i + 1) x) := he6
    replace hs6 : Heap.SameBut e h5 h6 := hs6
    refine wpAny_bind ?_
    unfold Builtin.SmallTypes.ownedTupleHandOut
    refine wpAny_bind (wpAny_setField_rec (s := ⟨h6, g, d, tk + 1, os⟩) he6 (by simp) fun h7 he7 hs7 => ?_)
    replace he7 : h7.get? e = some (eCells (rawInt hp.objs.size) f5 it (i + 1) x) := he7
    replace hs7 : Heap.SameBut e h6 h7 := hs7
    refine wpAny_setField_rec (s := ⟨h7, g, d, tk + 1, os⟩) he7 (by simp) fun h8 he8 hs8 => ?_
    replace he8 : h8.get? e = some (eCells (rawInt hp.objs.size) false it (i + 1) x) := he8
    replace hs8 : Heap.SameBut e h7 h8 := hs8
    have up8 : ∀ b, b ≠ e → ∀ o, h5.get? b = some o → h8.get? b = some o := fun b n1 o q => hs8.extBut _ _ n1 (hs7.extBut _ _ n1 (hs6.extBut _ _ n1 q))
    have hit8 : h8.IsListIter it l (i + 1) := by
      obtain ⟨o, q, r⟩ := hit5
      exact ⟨o, up8 _ ne.symm _ q, r⟩
    refine wpAny_bind (wpAny_letGo ?_)
    exact wpAny_pure ⟨_, rfl, h (rawInt hp.objs.size) false x h8 (.inr ⟨_, rfl⟩) he8 hit8 (up8 _ eT _ (hs5.extBut _ _ eT gT)) fun b n1 n2 o q => up8 b n1 o (hs5.extBut _ _ n1 (up4 b n1 n2 o q))⟩
theorem en_end {c0 old : Value} {f : Bool} {i : Nat} {items : Array Value} (hh : A.handled = none) (he : s.heap.get? e = some (eCells c0 f it i old)) (hit : s.heap.IsListIter it l i) (hl : s.heap.IsList l items) (hx : items[i]? = none) {Q : Fin → Shared → Prop}
    (hE : ∀ h' x, Heap.ExtBut it s.heap h' → (∃ o, h'.get? x = some o ∧ o.cls = .type "StopIteration") → E (.ref x) { s with heap := h' }) :
    wpAny (model prog W) A (Builtin.«enumerate.__next__» ⟨[.ref e], []⟩) Q E s := by
  show wpAny _ _ (field (.ref e) 2 >>= _) _ _ _
  refine wpAny_bind (wpAny_field he rfl (x := .ref it) rfl ?_)
  exact wpAny_bind (wpAny_nextOf_list_end hh hit hl hx hE)
theorem en_next {Q : Option Value → Shared → Prop} {o : Obj} (he : s.heap.get? e = some o) (hT : o.cls = .type "enumerate")
    (h : wpAny (model prog W) A.in1 (Builtin.«enumerate.__next__» ⟨[.ref e], []⟩) (fun fin s' => ∃ v, fin = .done (.ret v) ∧ Q (some v) s') (fun x s' => ∃ a, x = .ref a ∧ (∃ o, s'.heap.get? a = some o ∧ o.cls = .type "StopIteration") ∧ Q none s') s) : wpAny (model prog W) A (pyNext (.ref e)) Q E s := by
  have ty : s.TypeIs (.ref e) "enumerate" := ⟨_, he, hT⟩
  unfold pyNext
  refine wpAny_bind (wpAny_attempt (wpAny_callSpecial?_slot (name := Str.ofString "__next__") ty F.slot_enumerate_next ?_))
  refine wpAny_call_entry F.slot_enumerate_next ty F.entry_enumerate_next ?_ (F.args_enumerate_next_1 _)
  refine wpAny_mono h (fun fin s1 ⟨v, ev, q⟩ => ⟨v, ev, wpAny_pure q⟩) fun x s1 ⟨a, ea, ⟨o, ho, hc⟩, q⟩ => ?_
  subst ea
  exact wpAny_bind (wpAny_isInstance (T := "StopIteration") (b := true) ⟨o, ho, hc⟩ isSubtype_stop (wpAny_pure q))
end

/-- the pairs that were made: their cells, rising, above lo -/
structure EnG (vs : List Value) (lo : Addr) (h : Heap) (as : List Addr) : Prop where
  rise : as.Pairwise (· < ·)
  above : ∀ a ∈ as, lo < a
  at_ : ∀ (j : Nat) (a : Addr), as[j]? = some a → ∃ (t : Tok) (x : Value), vs[j]? = some x ∧ h.get? a = some (tCells [.int (j : Int) t, x])
theorem EnG.there {vs : List Value} {lo : Addr} {h : Heap} {as : List Addr} (g : EnG vs lo h as) {a : Addr} (ha : a ∈ as) : a < h.objs.size := by
  obtain ⟨j, hj⟩ := List.mem_iff_getElem?.mp ha
  obtain ⟨_, _, _, q⟩ := g.at_ j a hj
  exact Heap.lt_size q
theorem EnG.keep {vs : List Value} {lo : Addr} {h h' : Heap} {as : List Addr} (g : EnG vs lo h as) (k : ∀ b, lo < b → ∀ o, h.get? b = some o → h'.get? b = some o) : EnG vs lo h' as :=
  ⟨g.rise, g.above, fun j a hj => by
    obtain ⟨t, x, q1, q2⟩ := g.at_ j a hj
    exact ⟨t, x, q1, k a (g.above a (List.mem_of_getElem? hj)) _ q2⟩⟩
section
variable {prog : Program} {W : World} {A : Around} {s : Shared} {R : Result → Shared → Prop} {vs : List Value}
abbrev lCells (acc : Array Value) (c : Nat) : Obj := { cls := .type "list", dict := none, data := .seq acc c, slots := #[] }
theorem en_loop {S e it l : Addr} (hh : A.handled = none) (hSe : e < S) (hie : it < e) (lS : l ≠ S) (le : l ≠ e) (li : l ≠ it) (hn : vs.length ≤ sizeLine) (res : Value) {h1 : Heap}
    (hR : ∀ h' tk acc c as, (∀ b, b ≠ S → b ≠ e → b ≠ it → ∀ o, h1.get? b = some o → h'.get? b = some o) → h'.get? S = some (lCells acc c) → as.length = vs.length → EnG vs S h' as → acc.toList = as.map Value.ref → R (.ok (.ret res)) { s with heap := h', toks := tk }) :
    ∀ (k i : Nat) (h : Heap) (tk c : Nat) (acc : Array Value) (as : List Addr) (c0 old : Value) (f : Bool), vs.length - i = k → i ≤ vs.length → ToldC c0 → h.get? e = some (eCells c0 f it i old) → h.IsListIter it l i → h.IsList l vs.toArray →
      (∀ b, b ≠ S → b ≠ e → b ≠ it → ∀ o, h1.get? b = some o → h.get? b = some o) → h.get? S = some (lCells acc c) → acc.toList = as.map Value.ref → as.length = i → EnG vs S h as →
      codeAny (model prog W) A (.builtin "list.extend.loop" ⟨[.ref S, .ref e, res], []⟩) R { s with heap := h, toks := tk } := by
  have neSe : S ≠ e := Nat.ne_of_gt hSe
  have hSi : S ≠ it := Nat.ne_of_gt (Nat.lt_trans hie hSe)
  have nie : it ≠ e := Nat.ne_of_lt hie
  intro k
  induction k with
  | zero =>
    intro i h tk c acc as c0 old f hk hi hc he hit hl hkeep hS hacc hal hG
    refine codeAny_builtin PySem.F.entry_extend_loop ?_
    rw [Around.under_plainId PySem.F.plain_extend_loop _]
    show wpAny _ A.in1 (pyNext (.ref e) >>= _) _ _ _
    refine wpAny_bind (en_next (s := { s with heap := h, toks := tk }) (A := A.in1) he rfl (en_end (A := A.in1.in1) hh he hit hl (by simp; omega) fun h' x hx hst => ⟨x, rfl, hst, ?_⟩))
    refine wpAny_pure (hR h' tk acc c as (fun b n1 n2 n3 o q => hx b o n3 (hkeep b n1 n2 n3 o q)) (hx S _ hSi hS) (by omega) (hG.keep fun b lt o q => hx b o (Nat.ne_of_gt (Nat.lt_trans (Nat.lt_trans hie hSe) lt)) q) hacc)
  | succ k ih =>
    intro i h tk c acc as c0 old f hk hi hc he hit hl hkeep hS hacc hal hG
    have hlt : i < vs.length := by omega
    have sz : acc.size = i := by rw [← Array.length_toList, hacc, List.length_map, hal]
    have hSl : S < h.objs.size := Heap.lt_size hS
    have hel : e < h.objs.size := Heap.lt_size he
    refine codeAny_builtin PySem.F.entry_extend_loop ?_
    rw [Around.under_plainId PySem.F.plain_extend_loop _]
    show wpAny _ A.in1 (pyNext (.ref e) >>= _) _ _ _
    refine wpAny_bind (en_next (s := { s with heap := h, toks := tk }) (A := A.in1) he rfl (wpAny_mono (en_item (s := { s with heap := h, toks := tk }) (A := A.in1.in1) (x := vs[i]) hc he hit hl (by simp [hlt]) (Ne.symm nie) (Q := fun v s' => v = .ref h.objs.size ∧ ∃ c1 f1 old1 h', s' = { s with heap := h', toks := tk + 1 } ∧ ToldC c1 ∧ h'.get? e = some (eCells c1 f1 it (i + 1) old1) ∧ h'.IsListIter it l (i + 1) ∧ h'.get? h.objs.size = some (tCells [.int (i : Int) tk, vs[i]]) ∧ ∀ b, b ≠ e → b ≠ it → ∀ o, h.get? b = some o → h'.get? b = some o) fun c1 f1 old1 h' q1 q2 q3 q4 q5 => ⟨rfl, c1, f1, old1, h', rfl, q1, q2, q3, q4, q5⟩) (fun fin s' ⟨v, ev, q⟩ => ⟨v, ev, ?_⟩) fun x s' q => q))
    obtain ⟨rfl, c1, f1, old1, h', rfl, hc1, he', hit', ht, hkp⟩ := q
    have hS' := hkp S neSe hSi _ hS
    have up : ∀ b, b ≠ S → ∀ o, h'.get? b = some o → (h'.update S (Obj.mapSeq (·.push (Value.ref h.objs.size)))).get? b = some o := fun b hb o q => (Heap.get?_update_other _ _ (Ne.symm hb)).trans q
    show wpAny _ A.in1 (updateSeq S (·.push (Value.ref h.objs.size)) >>= _) _ _ _
    refine wpAny_bind ?_
    refine wpAny_updateSeq hS' rfl (wpAny_pure ⟨plainId_quiet PySem.F.plain_extend_loop _, ih (i + 1) _ (tk + 1) _ (acc.push (Value.ref h.objs.size)) (as ++ [h.objs.size]) c1 old1 f1 (by omega) hlt hc1 (up e (Ne.symm neSe) _ he') ?_ ?_ (fun b n1 n2 n3 o q => up b n1 o (hkp b n2 n3 o (hkeep b n1 n2 n3 o q)))
      (Heap.get?_update_self _ hS' rfl) (by rw [Array.toList_push, hacc, List.map_append]; rfl) (by rw [List.length_append, hal]; rfl) ⟨?_, ?_, ?_⟩⟩) (by rw [sz]; omega) (by show (acc.push (Value.ref h.objs.size)).size ≤ sizeLine + 1; rw [Array.size_push, sz]; omega)
    · obtain ⟨o, q, r⟩ := hit'
      exact ⟨o, up it hSi.symm o q, r⟩
    · obtain ⟨o, q, r⟩ := hl
      exact ⟨o, up l lS o (hkp l le li o q), r⟩
    · refine List.pairwise_append.mpr ⟨hG.rise, List.pairwise_singleton _ _, fun a ha b hb => ?_⟩
      rw [List.mem_singleton.mp hb]
      exact hG.there ha
    · intro a ha
      rcases List.mem_append.mp ha with ha | ha
      · exact hG.above a ha
      · rw [List.mem_singleton.mp ha]
        exact hSl
    · intro j b hj
      by_cases h1 : j < as.length
      · rw [List.getElem?_append_left h1] at hj
        obtain ⟨t, x, q1, q2⟩ := hG.at_ j b hj
        have lb := hG.above b (List.mem_of_getElem? hj)
        exact ⟨t, x, q1, up b (Nat.ne_of_gt lb) _ (hkp b (Nat.ne_of_gt (Nat.lt_trans hSe lb)) (Nat.ne_of_gt (Nat.lt_trans (Nat.lt_trans hie hSe) lb)) _ q2)⟩
      · by_cases h2 : j = as.length
        · subst h2
          have hb : h.objs.size = b := by simpa using hj
          subst hb
          rw [hal]
          exact ⟨tk, vs[i], List.getElem?_eq_getElem hlt, up _ (Nat.ne_of_gt hSl) _ ht⟩
        · rw [List.getElem?_eq_none (by rw [List.length_append, List.length_singleton]; omega)] at hj
          cases hj
theorem en_nolen : typeLookup (.type "enumerate") "__len__" = pure none := am_miss_of_fast (by decide +kernel)
theorem en_nohint : typeLookup (.type "enumerate") "__length_hint__" = pure none := am_miss_of_fast (by decide +kernel)
theorem en_hint {E : Value → Shared → Prop} {e : Addr} (ty : s.TypeIs (.ref e) "enumerate") {Q : Bool → Shared → Prop} (h : Q true s) : wpAny (model prog W) A (Builtin.List.listLengthHint (.ref e)) Q E s := by
  unfold Builtin.List.listLengthHint
  refine wpAny_bind (wpAny_specialOf ty en_nolen ?_)
  refine wpAny_ite_split (fun q => absurd q (by decide +kernel)) (fun _ => ?_)
  refine wpAny_ite_split (fun q => absurd q (by decide)) (fun _ => ?_)
  exact wpAny_bind (wpAny_specialOf ty en_nohint (wpAny_pure h))
theorem selfIterE {E : Value → Shared → Prop} {e it : Addr} {c0 old : Value} {f : Bool} {i : Nat} {Q : Value → Shared → Prop} (he : s.heap.get? e = some (eCells c0 f it i old)) (h : Q (.ref e) s) : wpAny (model prog W) A (pyIter (.ref e)) Q E s := by
  have ty : s.TypeIs (.ref e) "enumerate" := ⟨_, he, rfl⟩
  exact wpAny_pyIter_slot ty F.slot_enumerate_iter (wpAny_call_entry F.slot_enumerate_iter ty F.entry_enumerate_iter (wpAny_pure ⟨_, rfl, _, _, ty, F.slot_enumerate_next.lookup, h⟩) (F.args_enumerate_iter_1 _))
theorem en_extend {S e it l : Addr} {c0 old : Value} {f : Bool} (hh : A.handled = none) (hSe : S ≠ e) (he : s.heap.get? e = some (eCells c0 f it 0 old)) (hc : ToldC c0) (hit : s.heap.IsListIter it l 0) (hl : s.heap.IsList l vs.toArray) (hS : ∃ c, s.heap.get? S = some (lCells #[] c)) (res : Value)
    (loop : ∀ h c tk, (∀ b, b ≠ S → ∀ o, s.heap.get? b = some o → h.get? b = some o) → h.get? S = some (lCells #[] c) → codeAny (model prog W) A (.builtin "list.extend.loop" ⟨[.ref S, .ref e, res], []⟩) R { s with heap := h, toks := tk }) :
    wpAny (model prog W) A.in1 (Builtin.List.listExtendWith (.ref S) (.ref e) res)
      (fun fin s' => match fin with | .done f => R (.ok f) s' | .again c' => c'.quiet = true ∧ codeAny (model prog W) A c' R s') (fun x s' => R (.error x) s') s := by
  obtain ⟨c, hS⟩ := hS
  unfold Builtin.List.listExtendWith
  refine wpAny_bind (wpAny_typeOf (T := "enumerate") ⟨_, he, rfl⟩ ?_)
  have h1 : Builtin.List.listSameRef (.ref S) (.ref e) = false := by simp [Builtin.List.listSameRef, hSe]
  have h2 : (Value.type "enumerate" == Value.type "list") = false := by decide
  have h3 : (Value.type "enumerate" == Value.type "tuple") = false := by decide
  simp only [h1, h2, h3, Bool.or_false, Bool.false_eq_true, if_false]
  refine wpAny_bind (selfIterE he ?_)
  refine wpAny_bind (wpAny_holding (en_hint ⟨_, he, rfl⟩ ?_))
  refine wpAny_ite_split (fun _ => ?_) (fun _ => wpAny_pure ⟨plainId_quiet PySem.F.plain_extend_loop _, loop _ c _ (fun b _ o q => q) hS⟩)
  refine wpAny_bind (wpAny_rule ?_)
  refine wpAny_bind ?_
  show wpAny _ _ (updateSeq S (·.push .none) >>= fun _ => updateSeq S (·.pop)) _ _ _
  refine wpAny_bind (wpAny_updateSeq hS rfl ?_)
  have hS2 := Heap.get?_update_self (Obj.mapSeq (·.push Value.none)) hS rfl
  refine wpAny_updateSeq (hz := by seq_fits) hS2 rfl ?_
  have hS3 := Heap.get?_update_self (Obj.mapSeq (·.pop)) hS2 rfl
  refine wpAny_pure ⟨plainId_quiet PySem.F.plain_extend_loop _, loop _ _ _ (fun b hb o q => ?_) hS3⟩
  exact (Heap.get?_update_other _ _ (Ne.symm hb)).trans ((Heap.get?_update_other _ _ (Ne.symm hb)).trans q)
/-- list(e) of an enumerate of a list that has not begun -/
theorem en_call {E : Value → Shared → Prop} {e it l : Addr} {c0 old : Value} {f : Bool} (hh : A.handled = none) (hie : it < e) (le : l ≠ e) (li : l ≠ it) (he : s.heap.get? e = some (eCells c0 f it 0 old)) (hc : ToldC c0) (hit : s.heap.IsListIter it l 0) (hl : s.heap.IsList l vs.toArray) (hn : vs.length ≤ sizeLine) {Q : Value → Shared → Prop}
    (hQ : ∀ h' tk acc c as, (∀ b, b ≠ e → b ≠ it → ∀ o, s.heap.get? b = some o → h'.get? b = some o) → h'.get? s.heap.objs.size = some (lCells acc c) → as.length = vs.length → EnG vs s.heap.objs.size h' as → acc.toList = as.map Value.ref → Q (.ref s.heap.objs.size) { s with heap := h', toks := tk }) :
    wpAny (model prog W) A (call (.type "list") [.ref e]) Q E s := by
  have lte : e < s.heap.objs.size := Heap.lt_size he
  have lti : it < s.heap.objs.size := by obtain ⟨_, q, _⟩ := hit; exact Heap.lt_size q
  have ltl : l < s.heap.objs.size := by obtain ⟨_, q, _⟩ := hl; exact Heap.lt_size q
  refine callType_codes (Q₁ := fun obj s₁ => obj = .ref s.heap.objs.size ∧ s₁ = { s with heap := s.heap.push { cls := .type "list", data := .seq #[] } }) PySem.F.called_list (PySem.F.typeCall_list_1 _) PySem.F.entry_list_init
    (code_list_new _ ⟨rfl, rfl⟩) fun obj s₁ h₁ => ?_
  obtain ⟨rfl, rfl⟩ := h₁
  have hS : (s.heap.push { cls := .type "list", data := .seq #[] }).get? s.heap.objs.size = some (lCells #[] 0) := Heap.get?_push_size _ rfl
  refine ⟨⟨_, hS, rfl⟩, PySem.F.args_list_init_2 _ _, ?_⟩
  show wpAny _ _ (do let old ← Builtin.List.listItems (.ref s.heap.objs.size); Builtin.List.listUpdate (.ref s.heap.objs.size) (fun _ => #[]); letGo old.toList.reverse; Builtin.List.listExtendWith (.ref s.heap.objs.size) (.ref e) .none) _ _ _
  refine wpAny_bind ?_
  unfold Builtin.List.listItems
  refine wpAny_bind (wpAny_seqItems hS rfl (wpAny_pure ?_))
  show wpAny _ _ (updateSeq s.heap.objs.size (fun _ => #[]) >>= fun _ => letGo (#[] : Array Value).toList.reverse >>= fun _ => Builtin.List.listExtendWith (.ref s.heap.objs.size) (.ref e) .none) _ _ _
  refine wpAny_bind (wpAny_updateSeq hS rfl ?_)
  have hS2 := Heap.get?_update_self (Obj.mapSeq (fun _ => (#[] : Array Value))) hS rfl
  have up : ∀ b, b ≠ s.heap.objs.size → ∀ o, s.heap.get? b = some o → ((s.heap.push { cls := .type "list", data := .seq #[] }).update s.heap.objs.size (Obj.mapSeq (fun _ => (#[] : Array Value)))).get? b = some o :=
    fun b hb o q => (Heap.get?_update_other _ _ (Ne.symm hb)).trans (Heap.get?_push_of_some _ q)
  refine wpAny_bind (wpAny_letGo ?_)
  generalize (s.heap.push { cls := .type "list", data := .seq #[] }).update s.heap.objs.size (Obj.mapSeq (fun _ => (#[] : Array Value))) = h2 at *
  have ne : s.heap.objs.size ≠ e := Nat.ne_of_gt lte
  have nit : s.heap.objs.size ≠ it := Nat.ne_of_gt lti
  have nl : s.heap.objs.size ≠ l := Nat.ne_of_gt ltl
  have he2 := up e ne.symm _ he
  have hit2 : h2.IsListIter it l 0 := by
    obtain ⟨o, q, r⟩ := hit
    exact ⟨o, up it nit.symm o q, r⟩
  have hl2 : h2.IsList l vs.toArray := by
    obtain ⟨o, q, r⟩ := hl
    exact ⟨o, up l nl.symm o q, r⟩
  refine en_extend (s := { s with heap := h2 }) (A := A.in1) hh ne he2 hc hit2 hl2 ⟨_, hS2⟩ .none fun h c tk hk hSc => ?_
  have low : ∀ b, b ≠ s.heap.objs.size → b ≠ e → b ≠ it → ∀ o, s.heap.get? b = some o → h.get? b = some o := fun b n1 n2 n3 o q => hk b n1 o (up b n1 o q)
  refine en_loop (s := { s with heap := h2 }) (A := A.in1) (h1 := h) hh lte hie nl.symm le li hn .none (fun h' tk' acc c' as q1 q2 q3 q4 q5 => ?_) vs.length 0 h tk c #[] [] c0 old f (Nat.sub_zero _) (Nat.zero_le _) hc (hk e ne.symm _ he2) ?_ ?_ (fun b _ _ _ o q => q) hSc rfl rfl ⟨List.Pairwise.nil, (fun _ ha => nomatch ha), (fun j a hj => by simp at hj)⟩
  · refine ⟨rfl, hQ h' tk' acc c' as (fun b n1 n2 o q => ?_) q2 q3 q4 q5⟩
    have n0 : b ≠ s.heap.objs.size := Nat.ne_of_lt (Heap.lt_size q)
    exact q1 b n0 n1 n2 o (low b n0 n1 n2 o q)
  · obtain ⟨o, q, r⟩ := hit2
    exact ⟨o, hk it nit.symm o q, r⟩
  · obtain ⟨o, q, r⟩ := hl2
    exact ⟨o, hk l nl.symm o q, r⟩
end
end LW

namespace LW
open PySem PySem.Spec PyProof.Rows L2
/-- the frame's facts where new cells are laid at once -/
theorem invLaid {X : Cx} {pins : List (Addr × Obj)} {σ : L2.St} {H H' : Hp} {s : Shared} {h' : Heap} {t' : Nat} (I : Inv X pins σ H s) (k : ∀ b o, s.heap.get? b = some o → h'.get? b = some o) (off : ∀ b, b < s.heap.objs.size → H' b = H b)
    (new : ∀ b u, s.heap.objs.size ≤ b → H' b = some u → ObjOk X.prog X.w H' h' b u) : Inv X pins σ H' { s with heap := h', toks := t' } := by
  have kp : ∀ b u, H b = some u → H' b = some u := fun b u e => by
    by_cases lt : b < s.heap.objs.size
    · rw [off b lt]
      exact e
    · rw [I.hok.fresh (Nat.le_of_not_lt lt)] at e
      cases e
  refine I.call' (ch := []) rfl ⟨fun b o q _ _ _ => k b o q, fun b o q _ _ _ => ⟨o.slots, k b o q⟩, fun b o q n _ => (off b (Heap.lt_size q)).trans n, fun b o q _ => ⟨o, k b o q⟩, fun b xs q => kp b _ q, fun b o u q => kp b _ q, fun b ps q => ⟨#[], by rw [kp b _ q]; simp⟩⟩ (fun b u q => ?_) I.bare fun b z => by simp at z
  by_cases lt : b < s.heap.objs.size
  · rw [off b lt] at q
    exact (I.hok b u q).stay (fun d v _ y => k d v y) (fun d y => kp d _ y) fun d xs y => kp d _ y
  · exact new b u (Nat.le_of_not_lt lt) q
/-- the pairs laid at their cells -/
def layE : Hp → List Addr → List V → Nat → Hp
  | H, a :: r, x :: t, i => layE (upd H a (.tup [.int (i : Int), x])) r t (i + 1)
  | H, _, _, _ => H
theorem layE_off {b : Addr} : ∀ {as : List Addr} {xs : List V} {H : Hp} {i : Nat}, b ∉ as → layE H as xs i b = H b
  | [], _, _, _, _ => rfl
  | _ :: _, [], _, _, _ => rfl
  | a :: r, x :: t, H, i, h => by
    have n1 : b ≠ a := fun e => h (by rw [e]; exact List.mem_cons_self ..)
    rw [layE, layE_off fun z => h (List.mem_cons_of_mem _ z), upd_ne n1]
theorem layE_at : ∀ {as : List Addr} {xs : List V} {H : Hp} {i j : Nat} {a : Addr} {x : V}, as.Pairwise (· < ·) → as[j]? = some a → xs[j]? = some x → layE H as xs i a = some (.tup [.int ((i + j : Nat) : Int), x])
  | [], _, _, _, _, _, _, _, e, _ => by simp at e
  | _ :: _, [], _, _, _, _, _, _, _, e => by simp at e
  | a0 :: r, x0 :: t, H, i, 0, a, x, hp, e1, e2 => by
    have : a0 = a := by simpa using e1
    subst this
    have : x0 = x := by simpa using e2
    subst this
    have no : a0 ∉ r := fun z => Nat.lt_irrefl _ ((List.pairwise_cons.mp hp).1 _ z)
    rw [layE, layE_off no, upd_same]
    rfl
  | a0 :: r, x0 :: t, H, i, j + 1, a, x, hp, e1, e2 => by
    rw [layE, layE_at (List.pairwise_cons.mp hp).2 (by simpa using e1) (by simpa using e2), Nat.add_right_comm]
    rfl
def tListE (K : PySem.W.Frag) (te : TE) : TE := fun σ H Q => te σ H fun v H1 => ∃ (l : Addr) (xs : List V), v = .ref l ∧ SqL K H1 l xs ∧ xs.length ≤ 100000 ∧
  ∀ (H' : Hp) (p : Addr) (ts : List Addr), H1 p = none → Same H1 H' → H' p = some (.lst (ts.map V.ref)) → ts.length = xs.length → (∀ (j : Nat) t x, ts[j]? = some t → xs[j]? = some x → H' t = some (.tup [.int (j : Int), x])) → Q (.ref p) H'
theorem valsRefs2 : ∀ as : List Addr, Vals (as.map V.ref) (as.map Value.ref)
  | [] => .nil
  | _ :: as => .cons rfl (valsRefs2 as)
theorem pe_listEnum {X : Cx} {e : Expr} {te : TE} {p p2 pos pos2 : Pos} (hc : X.calm = true) (he : PE X e te) (hg : Gl X "list") (hm : X.mg "list" = none) (hg2 : Gl X "enumerate") (hm2 : X.mg "enumerate" = none)
    (hs : starEach [.Call (.Name "enumerate" p2) [e] [] pos2] X.env = (false, eval (.Call (.Name "enumerate" p2) [e] [] pos2) X.env) :: starEach [] X.env := by rfl) (hs2 : starEach [e] X.env = [(false, eval e X.env)] := by rfl) :
    PE X (.Call (.Name "list" p) [.Call (.Name "enumerate" p2) [e] [] pos2] [] pos) (tListE X.K te) := by
  refine ⟨fun pins s σ H Q I hq => ?_⟩
  have bl : bootBuiltins "list" = some (.type "list") := by decide +kernel
  refine wpAny_Call_Name_kw (ld_blt I hg hm bl ?_)
  refine PyProof.Rows.callWith_type1 ?_ hs rfl
  rw [hs]
  show wpAny _ _ (spliced ((false, eval (.Call (.Name "enumerate" p2) [e] [] pos2) X.env) :: backTo pos (starEach [] X.env))) _ _ s
  refine Calls.spliced_cons ?_
  refine wpAny_Call_Name_kw (ld_blt I hg2 hm2 boot_enumerate ?_)
  refine PyProof.Rows.callWith_type1 ?_ hs2 rfl
  rw [hs2]
  show wpAny _ _ (spliced ((false, eval e X.env) :: backTo pos2 [])) _ _ s
  refine Calls.spliced_cons (thn (he.run pins s σ H _ I hq) fun u s1 hyp => Calls.spliced_nil ?_)
  obtain ⟨v, H1, I1, r1, l, xs, rfl, hl, lx, q⟩ := hyp
  obtain rfl : u = Value.ref l := r1
  have sz : (100000 : Nat) ≤ sizeLine := by decide
  obtain ⟨us, rv, d1, la⟩ := sd_data (b := false) I1 hl
  have lus := rv.length
  have fr : ∀ b, s1.heap.objs.size ≤ b → H1 b = none := fun b hb => I1.hok.fresh hb
  refine enum_starts (sd_begins false l us.toArray) (fun _ _ z => by cases z) d1 fun h1 he hi hk => Calls.spliced_nil ?_
  have sz1 : s1.heap.objs.size + 1 < h1.objs.size := Heap.lt_size he
  have hl1 : h1.IsList l us.toArray := by
    obtain ⟨o, q1, q2⟩ := d1
    exact ⟨o, hk _ _ q1, q2⟩
  have n1 : l ≠ s1.heap.objs.size + 1 := Nat.ne_of_lt (Nat.lt_succ_of_lt la)
  have n2 : l ≠ s1.heap.objs.size := Nat.ne_of_lt la
  refine en_call (s := { s1 with heap := h1 }) (vs := us) (c0 := .none) (old := .none) (f := false) (I1.ok.hd hc) (Nat.lt_succ_self _) n1 n2 he (.inl rfl) ⟨_, hi, rfl, rfl⟩ hl1 (by omega) fun h2 tk acc c as hk2 hS hal hG hacc => ?_
  have low : ∀ b o, s1.heap.get? b = some o → h2.get? b = some o := fun b o e => hk2 b (Nat.ne_of_lt (Nat.lt_succ_of_lt (Heap.lt_size e))) (Nat.ne_of_lt (Heap.lt_size e)) o (hk b o e)
  have asl : ∀ a ∈ as, h1.objs.size < a := hG.above
  have nS : h1.objs.size ∉ as := fun z => Nat.lt_irrefl _ (asl _ z)
  have aS : layE (upd H1 h1.objs.size (.lst (as.map V.ref))) as xs 0 h1.objs.size = some (.lst (as.map V.ref)) := by rw [layE_off nS, upd_same]
  have at_ : ∀ (j : Nat) t x, as[j]? = some t → xs[j]? = some x → layE (upd H1 h1.objs.size (.lst (as.map V.ref))) as xs 0 t = some (.tup [.int (j : Int), x]) := fun j t x e1 e2 => by
    rw [layE_at hG.rise e1 e2, Nat.zero_add]
  have off : ∀ b, b ∉ as → b ≠ h1.objs.size → layE (upd H1 h1.objs.size (.lst (as.map V.ref))) as xs 0 b = H1 b := fun b m1 m2 => by rw [layE_off m1, upd_ne m2]
  have sub : ∀ b, b < s1.heap.objs.size → b ∉ as ∧ b ≠ h1.objs.size := fun b lt => by
    have l2 : b < h1.objs.size := Nat.lt_trans lt (Nat.lt_of_succ_lt sz1)
    exact ⟨fun z => Nat.lt_irrefl _ (Nat.lt_trans l2 (asl _ z)), Nat.ne_of_lt l2⟩
  have I2 : Inv X pins σ (layE (upd H1 h1.objs.size (.lst (as.map V.ref))) as xs 0) { s1 with heap := h2, toks := tk } := invLaid I1 low (fun b lt => off b (sub b lt).1 (sub b lt).2) fun b u hb e => by
    by_cases m1 : b ∈ as
    · obtain ⟨j, ej⟩ := List.mem_iff_getElem?.mp m1
      have lj := (List.getElem?_eq_some_iff.mp ej).1
      have jx : xs[j]? = some xs[j] := List.getElem?_eq_getElem (by omega)
      rw [at_ j b _ ej jx] at e
      cases e
      obtain ⟨t, x, q1, q2⟩ := hG.at_ j b ej
      obtain ⟨u2, hu, ru⟩ := rv.get jx
      have : x = u2 := Option.some.inj (q1.symm.trans hu)
      subst this
      exact ⟨by show 2 ≤ sizeLine; decide, [.int (j : Int) t, x], .cons ⟨_, rfl⟩ (.cons ru .nil), ⟨_, q2, rfl, _, rfl⟩⟩
    · by_cases m2 : b = h1.objs.size
      · subst m2
        rw [aS] at e
        cases e
        refine ⟨by rw [List.length_map]; omega, acc.toList, c, by rw [hacc]; exact valsRefs2 as, ?_⟩
        rw [Array.toArray_toList]
        exact hS
      · rw [off b m1 m2, fr b hb] at e
        cases e
  refine ⟨.ref h1.objs.size, _, I2, rfl, q _ h1.objs.size as (fr _ (Nat.le_of_succ_le (Nat.le_of_lt sz1))) (fun b o e => ?_) aS (by omega) at_⟩
  have lt : b < s1.heap.objs.size := Nat.lt_of_not_le fun z => by
    rw [fr b z] at e
    cases e
  rw [off b (sub b lt).1 (sub b lt).2]
  exact e
theorem kListE {X : Cx} {K : PySem.W.Frag} {e : Expr} {te : TE} {p p2 pos pos2 : Pos} (h : X.K = K) (hc : X.calm = true) (he : PE X e te) (hg : Gl X "list") (hm : X.mg "list" = none) (hg2 : Gl X "enumerate") (hm2 : X.mg "enumerate" = none)
    (hs : starEach [.Call (.Name "enumerate" p2) [e] [] pos2] X.env = (false, eval (.Call (.Name "enumerate" p2) [e] [] pos2) X.env) :: starEach [] X.env := by rfl) (hs2 : starEach [e] X.env = [(false, eval e X.env)] := by rfl) :
    PE X (.Call (.Name "list" p) [.Call (.Name "enumerate" p2) [e] [] pos2] [] pos) (tListE K te) := by
  subst h
  exact pe_listEnum hc he hg hm hg2 hm2 hs hs2
end LW

/-! rows, places in them, ways: in plain lists -/
namespace LW
open PySem PySem.Spec PyProof.Rows L2

inductive Rs where
  | nil
  | put (b : Nat) (s : Sm) (t : Rs)
  | say (w : Sm) (t : Rs)
  | ite (w : Sm) (a b t : Rs)
  | loop (w : Sm) (ws : List Sm) (b t : Rs)
def Rs.ds : Rs → List D
  | .nil => []
  | .put b s t => .tup [.str "put", .int (b : Nat), dSm s] :: t.ds
  | .say w t => .tup [.str "say", dSm w] :: t.ds
  | .ite w a b t => .tup [.str "if", dSm w, .tup a.ds, .tup b.ds] :: t.ds
  | .loop w ws b t => .tup [.str "loop", dSm w, .tup (ws.map dSm), .tup b.ds] :: t.ds
def Rs.W (many : Nat) : Rs → Prop
  | .nil => True
  | .put b s t => b < many ∧ SumW many s ∧ t.W many
  | .say w t => SumW many w ∧ t.W many
  | .ite w a b t => SumW many w ∧ a.W many ∧ b.W many ∧ t.W many
  | .loop w ws b t => SumW many w ∧ (∀ x ∈ ws, SumW many x) ∧ ws.length ≤ 3 ∧ b.W many ∧ t.W many
def Rs.dep : Rs → Nat
  | .nil => 0
  | .put _ _ t => t.dep
  | .say _ t => t.dep
  | .ite _ a b t => max (max a.dep b.dep + 1) t.dep
  | .loop _ _ b t => max (b.dep + 1) t.dep
/-- all rows, those within others too -/
def Rs.num : Rs → Nat
  | .nil => 0
  | .put _ _ t => t.num + 1
  | .say _ t => t.num + 1
  | .ite _ a b t => a.num + b.num + t.num + 1
  | .loop _ _ b t => b.num + t.num + 1
def Rs.tl : Rs → Rs
  | .nil => .nil
  | .put _ _ t => t
  | .say _ t => t
  | .ite _ _ _ t => t
  | .loop _ _ _ t => t
def Rs.isNil : Rs → Bool
  | .nil => true
  | _ => false

/-- good rows are such -/
theorem rsOf {many : Nat} : ∀ (r : Nat) (rows : List D), (∀ d ∈ rows, GRow many r d) → ∃ R : Rs, R.ds = rows ∧ R.W many ∧ R.dep ≤ r := by
  intro r
  induction r with
  | zero =>
    intro rows
    induction rows with
    | nil => exact fun _ => ⟨.nil, rfl, trivial, Nat.le_refl _⟩
    | cons d t ih =>
      intro h
      obtain ⟨T, e, w, hd⟩ := ih fun x hx => h x (List.mem_cons_of_mem _ hx)
      have g := h d (List.mem_cons_self ..)
      rcases gKinds g with ⟨b, s, e1⟩ | ⟨x, e1⟩ | ⟨r', x, a, b, e0, _⟩ | ⟨r', x, ws, b, e0, _⟩
      · rcases rowKinds' g.1 with ⟨i, sm, rfl, i0, i1, sw⟩ | ⟨sm, rfl, _⟩ | ⟨sm, a, b, rfl, _⟩ | ⟨sm, wl, b, rfl, _⟩
        · exact ⟨.put i.toNat sm T, by simp only [Rs.ds, e]; rw [show ((i.toNat : Nat) : Int) = i by omega], ⟨by omega, sw, w⟩, hd⟩
        · cases e1
        · cases e1
        · cases e1
      · rcases rowKinds' g.1 with ⟨i, sm, rfl, _⟩ | ⟨sm, rfl, sw⟩ | ⟨sm, a, b, rfl, _⟩ | ⟨sm, wl, b, rfl, _⟩
        · cases e1
        · exact ⟨.say sm T, by simp only [Rs.ds, e], ⟨sw, w⟩, hd⟩
        · cases e1
        · cases e1
      · cases e0
      · cases e0
  | succ r ihr =>
    intro rows
    induction rows with
    | nil => exact fun _ => ⟨.nil, rfl, trivial, Nat.zero_le _⟩
    | cons d t ih =>
      intro h
      obtain ⟨T, e, w, hd⟩ := ih fun x hx => h x (List.mem_cons_of_mem _ hx)
      have g := h d (List.mem_cons_self ..)
      rcases gKinds g with ⟨b, s, e1⟩ | ⟨x, e1⟩ | ⟨r', x, a, b, e0, e1, ga, gb⟩ | ⟨r', x, ws, b, e0, e1, gb⟩
      · rcases rowKinds' g.1 with ⟨i, sm, rfl, i0, i1, sw⟩ | ⟨sm, rfl, _⟩ | ⟨sm, a, b, rfl, _⟩ | ⟨sm, wl, b, rfl, _⟩
        · exact ⟨.put i.toNat sm T, by simp only [Rs.ds, e]; rw [show ((i.toNat : Nat) : Int) = i by omega], ⟨by omega, sw, w⟩, hd⟩
        · cases e1
        · cases e1
        · cases e1
      · rcases rowKinds' g.1 with ⟨i, sm, rfl, _⟩ | ⟨sm, rfl, sw⟩ | ⟨sm, a, b, rfl, _⟩ | ⟨sm, wl, b, rfl, _⟩
        · cases e1
        · exact ⟨.say sm T, by simp only [Rs.ds, e], ⟨sw, w⟩, hd⟩
        · cases e1
        · cases e1
      · have er : r' = r := by omega
        subst er
        obtain ⟨A, ea, wa, da⟩ := ihr a ga
        obtain ⟨B, eb, wb, db⟩ := ihr b gb
        rcases rowKinds' g.1 with ⟨i, sm, e2, _⟩ | ⟨sm, e2, _⟩ | ⟨sm, a2, b2, e2, sw⟩ | ⟨sm, wl, b2, e2, _⟩
        · rw [e1] at e2; cases e2
        · rw [e1] at e2; cases e2
        · rw [e1] at e2
          cases e2
          exact ⟨.ite sm A B T, by simp only [Rs.ds, e, ea, eb, e1], ⟨sw, wa, wb, w⟩, by simp only [Rs.dep]; omega⟩
        · rw [e1] at e2
          injection e2 with e2
          injection e2 with e2 _
          injection e2 with e2
          exact absurd e2 kinds.2.2.2.2.2.1
      · have er : r' = r := by omega
        subst er
        obtain ⟨B, eb, wb, db⟩ := ihr b gb
        rcases rowKinds' g.1 with ⟨i, sm, e2, _⟩ | ⟨sm, e2, _⟩ | ⟨sm, a2, b2, e2, sw⟩ | ⟨sm, wl, b2, e2, sw, hwl, l3⟩
        · rw [e1] at e2; cases e2
        · rw [e1] at e2; cases e2
        · rw [e1] at e2
          injection e2 with e2
          injection e2 with e2 _
          injection e2 with e2
          exact absurd e2 kinds.2.2.2.2.1
        · rw [e1] at e2
          cases e2
          exact ⟨.loop sm wl B T, by simp only [Rs.ds, e, eb, e1], ⟨sw, hwl, l3, wb, w⟩, by simp only [Rs.dep]; omega⟩
theorem rs_cnt : ∀ (R : Rs) (r : Nat), R.dep ≤ r → cnt (r + 1) (.tup R.ds) = R.num
  | .nil, r, _ => rfl
  | .put b s t, r, h => by
    have ih := rs_cnt t r h
    rw [cnt_tup] at ih ⊢
    simp only [Rs.ds, List.map_cons, List.sum_cons, ih, cntRow, in_put, Rs.num]
    simp; omega
  | .say s t, r, h => by
    have ih := rs_cnt t r h
    rw [cnt_tup] at ih ⊢
    simp only [Rs.ds, List.map_cons, List.sum_cons, ih, cntRow, in_say, Rs.num]
    simp; omega
  | .ite w a b t, r, h => by
    simp only [Rs.dep] at h
    have ih := rs_cnt t r (by omega)
    obtain ⟨r', rfl⟩ : ∃ r', r = r' + 1 := ⟨r - 1, by omega⟩
    have ia := rs_cnt a r' (by omega)
    have ib := rs_cnt b r' (by omega)
    rw [cnt_tup] at ih ⊢
    simp only [Rs.ds, List.map_cons, List.sum_cons, ih, cntRow, in_if, Rs.num, List.map_nil, List.sum_nil, ia, ib]
    omega
  | .loop w ws b t, r, h => by
    simp only [Rs.dep] at h
    have ih := rs_cnt t r (by omega)
    obtain ⟨r', rfl⟩ : ∃ r', r = r' + 1 := ⟨r - 1, by omega⟩
    have ib := rs_cnt b r' (by omega)
    rw [cnt_tup] at ih ⊢
    simp only [Rs.ds, List.map_cons, List.sum_cons, ih, cntRow, in_loop, Rs.num, List.map_nil, List.sum_nil, ib]
    omega

/-! ### positions: a block's rest, and what lies around it -/
inductive Fr where
  | top
  | ifF (ah : List Nat) (i : Nat) (t : Rs) (up : Fr)
  | loopF (ah : List Nat) (i : Nat) (w : Sm) (ws : List Sm) (b t : Rs) (up : Fr)
structure Pos' where
  ah : List Nat
  i : Nat
  rs : Rs
  fr : Fr
def Pos'.at_ (p : Pos') : List Nat := p.ah ++ [p.i]
/-- where one comes to from a block's rest -/
def norm : Fr → Rs → List Nat → Nat → Option Pos'
  | .top, .nil, _, _ => none
  | .ifF ah i t up, .nil, _, _ => norm up t ah i
  | .loopF ah i w ws b t up, .nil, _, _ => some ⟨ah, i, .loop w ws b t, up⟩
  | fr, .put b s t, ah, i => some ⟨ah, i, .put b s t, fr⟩
  | fr, .say w t, ah, i => some ⟨ah, i, .say w t, fr⟩
  | fr, .ite w a b t, ah, i => some ⟨ah, i, .ite w a b t, fr⟩
  | fr, .loop w ws b t, ah, i => some ⟨ah, i, .loop w ws b t, fr⟩
inductive At (R : Rs) : List Nat → Nat → Rs → Fr → Prop
  | top : At R [] 0 R .top
  | put {ah i b s t fr} (h : At R ah i (.put b s t) fr) : At R ah (i + 1) t fr
  | say {ah i w t fr} (h : At R ah i (.say w t) fr) : At R ah (i + 1) t fr
  | ite {ah i w a b t fr} (h : At R ah i (.ite w a b t) fr) : At R ah (i + 1) t fr
  | loop {ah i w ws b t fr} (h : At R ah i (.loop w ws b t) fr) : At R ah (i + 1) t fr
  | ifA {ah i w a b t fr} (h : At R ah i (.ite w a b t) fr) : At R (ah ++ [i, 0]) 0 a (.ifF ah (i + 1) t fr)
  | ifB {ah i w a b t fr} (h : At R ah i (.ite w a b t) fr) : At R (ah ++ [i, 1]) 0 b (.ifF ah (i + 1) t fr)
  | body {ah i w ws b t fr} (h : At R ah i (.loop w ws b t) fr) : At R (ah ++ [i, 0]) 0 b (.loopF ah i w ws b t fr)
/-- what lies around is a position, too -/
def Up (R : Rs) (ah : List Nat) : Fr → Prop
  | .top => ah = []
  | .ifF ah2 i2 t up => ∃ (w : Sm) (a b : Rs) (j g : Nat), i2 = j + 1 ∧ ah = ah2 ++ [j, g] ∧ At R ah2 j (.ite w a b t) up
  | .loopF ah2 i2 w ws b t up => ah = ah2 ++ [i2, 0] ∧ At R ah2 i2 (.loop w ws b t) up
theorem At.up {R : Rs} {ah : List Nat} {i : Nat} {rs : Rs} {fr : Fr} (h : At R ah i rs fr) : Up R ah fr := by
  induction h with
  | top => exact rfl
  | put h ih => exact ih
  | say h ih => exact ih
  | ite h ih => exact ih
  | loop h ih => exact ih
  | ifA h ih => exact ⟨_, _, _, _, 0, rfl, rfl, h⟩
  | ifB h ih => exact ⟨_, _, _, _, 1, rfl, rfl, h⟩
  | body h ih => exact ⟨rfl, h⟩
theorem At.norm {R : Rs} : ∀ {fr : Fr} {ah : List Nat} {i : Nat} {rs : Rs} {p : Pos'}, At R ah i rs fr → LW.norm fr rs ah i = some p → At R p.ah p.i p.rs p.fr ∧ p.rs.isNil = false
  | .top, ah, i, .nil, p, h, e => by cases e
  | .ifF ah2 i2 t up, ah, i, .nil, p, h, e => by
    obtain ⟨w, a, b, j, g, rfl, _, h2⟩ := h.up
    exact At.norm h2.ite e
  | .loopF ah2 i2 w ws b t up, ah, i, .nil, p, h, e => by
    obtain ⟨_, h2⟩ := h.up
    cases e
    exact ⟨h2, rfl⟩
  | fr, ah, i, .put b s t, p, h, e => by cases fr <;> (cases e; exact ⟨h, rfl⟩)
  | fr, ah, i, .say w t, p, h, e => by cases fr <;> (cases e; exact ⟨h, rfl⟩)
  | fr, ah, i, .ite w a b t, p, h, e => by cases fr <;> (cases e; exact ⟨h, rfl⟩)
  | fr, ah, i, .loop w ws b t, p, h, e => by cases fr <;> (cases e; exact ⟨h, rfl⟩)
theorem norm_here {fr : Fr} {rs : Rs} {ah : List Nat} {i : Nat} (h : rs.isNil = false) : norm fr rs ah i = some ⟨ah, i, rs, fr⟩ := by
  cases rs with
  | nil => cases h
  | put => cases fr <;> rfl
  | say => cases fr <;> rfl
  | ite => cases fr <;> rfl
  | loop => cases fr <;> rfl
theorem At.tl {R : Rs} {ah : List Nat} {i : Nat} {rs : Rs} {fr : Fr} (h : At R ah i rs fr) (n : rs.isNil = false) : At R ah (i + 1) rs.tl fr := by
  cases rs with
  | nil => cases n
  | put => exact h.put
  | say => exact h.say
  | ite => exact h.ite
  | loop => exact h.loop
theorem At.w {R : Rs} {many : Nat} (hw : R.W many) {ah : List Nat} {i : Nat} {rs : Rs} {fr : Fr} (h : At R ah i rs fr) : rs.W many := by
  induction h with
  | top => exact hw
  | put h ih => exact ih.2.2
  | say h ih => exact ih.2
  | ite h ih => exact ih.2.2.2
  | loop h ih => exact ih.2.2.2.2
  | ifA h ih => exact ih.2.1
  | ifB h ih => exact ih.2.2.1
  | body h ih => exact ih.2.2.2.1
theorem At.deep {R : Rs} {ah : List Nat} {i : Nat} {rs : Rs} {fr : Fr} (h : At R ah i rs fr) : ah.length + 2 * rs.dep ≤ 2 * R.dep := by
  induction h with
  | top => simp
  | put h ih => simpa [Rs.dep] using ih
  | say h ih => simpa [Rs.dep] using ih
  | ite h ih => simp only [Rs.dep] at ih; omega
  | loop h ih => simp only [Rs.dep] at ih; omega
  | ifA h ih => simp only [Rs.dep] at ih; simp; omega
  | ifB h ih => simp only [Rs.dep] at ih; simp; omega
  | body h ih => simp only [Rs.dep] at ih; simp; omega
/-- the rows that are still around -/
def Fr.num : Fr → Nat
  | .top => 0
  | .ifF _ _ t up => t.num + up.num
  | .loopF .. => 1
theorem At.num {R : Rs} {ah : List Nat} {i : Nat} {rs : Rs} {fr : Fr} (h : At R ah i rs fr) : rs.num + fr.num ≤ R.num := by
  induction h with
  | top => simp [Fr.num]
  | put h ih => simp only [Rs.num] at ih; omega
  | say h ih => simp only [Rs.num] at ih; omega
  | ite h ih => simp only [Rs.num] at ih; omega
  | loop h ih => simp only [Rs.num] at ih; omega
  | ifA h ih => simp only [Rs.num, Fr.num] at ih ⊢; omega
  | ifB h ih => simp only [Rs.num, Fr.num] at ih ⊢; omega
  | body h ih => simp only [Rs.num, Fr.num] at ih ⊢; omega

/-! ### the rows at places -/
/-- the block that lies at a place -/
def Blk (rows : List D) (ah : List Nat) (blk : List D) : Prop := (ah = [] ∧ blk = rows) ∨ ∃ (p : List Nat) (g : Nat) (d : D), ah = p ++ [g] ∧ lookR rows p = some d ∧ (inner d)[g]? = some (.tup blk)
theorem look1_app : ∀ (n : Nat) (d : D) (p : List Nat) (g i : Nat), p.length = 2 * n → look1 d (p ++ [g, i]) = (look1 d p).bind fun x => ((inner x)[g]?).bind fun y => (rowsOf y)[i]?
  | 0, d, p, g, i, h => by
    have : p = [] := List.eq_nil_of_length_eq_zero (by omega)
    subst this
    simp only [List.nil_append, look1, Option.bind_some]
    cases (inner d)[g]? with
    | none => rfl
    | some y =>
      simp only [Option.bind_some]
      cases (rowsOf y)[i]? <;> rfl
  | n + 1, d, p, g, i, h => by
    match p, h with
    | [], h => simp at h
    | [_], h => simp at h; omega
    | w :: k :: r, h =>
      simp only [List.cons_append, look1]
      cases (inner d)[w]? with
      | none => rfl
      | some x =>
        simp only [Option.bind_some]
        cases (rowsOf x)[k]? with
        | none => rfl
        | some d' =>
          simp only [Option.bind_some]
          exact look1_app n d' r g i (by simp at h; omega)
theorem look1_even : ∀ (n : Nat) (d : D) (p : List Nat) (x : D), p.length ≤ n → look1 d p = some x → p.length % 2 = 0
  | _, d, [], x, _, _ => rfl
  | _, d, [_], x, _, e => by cases e
  | 0, d, _ :: _ :: _, x, h, _ => by simp at h
  | n + 1, d, w :: k :: r, x, h, e => by
    simp only [look1] at e
    cases e1 : (inner d)[w]? with
    | none => rw [e1] at e; cases e
    | some y =>
      rw [e1] at e
      simp only [Option.bind_some] at e
      cases e2 : (rowsOf y)[k]? with
      | none => rw [e2] at e; cases e
      | some d' =>
        rw [e2] at e
        simp only [Option.bind_some] at e
        have := look1_even n d' r x (by simp at h; omega) e
        simp
        omega
theorem blk_look {rows blk : List D} {ah : List Nat} {i : Nat} {d : D} (h : Blk rows ah blk) (e : blk[i]? = some d) : lookR rows (ah ++ [i]) = some d := by
  rcases h with ⟨rfl, rfl⟩ | ⟨p, g, x, rfl, h1, h2⟩
  · simp [lookR, e, look1]
  · cases p with
    | nil => cases h1
    | cons n r =>
      simp only [lookR] at h1
      cases e1 : rows[n]? with
      | none => rw [e1] at h1; cases h1
      | some d0 =>
        rw [e1] at h1
        simp only [Option.bind_some] at h1
        have ev := look1_even r.length d0 r x (Nat.le_refl _) h1
        simp only [List.cons_append, lookR, e1, Option.bind_some, List.append_assoc]
        rw [show r ++ g :: ([] ++ [i]) = r ++ [g, i] from rfl, look1_app (r.length / 2) d0 r g i (by omega), h1]
        simp only [Option.bind_some, h2, rowsOf]
        exact e
theorem At.blk {R : Rs} {ah : List Nat} {i : Nat} {rs : Rs} {fr : Fr} (h : At R ah i rs fr) : ∃ blk, Blk R.ds ah blk ∧ blk.drop i = rs.ds ∧ i ≤ blk.length := by
  have next : ∀ {blk : List D} {i : Nat} {d : D} {t : List D}, blk.drop i = d :: t → i ≤ blk.length → blk.drop (i + 1) = t ∧ i + 1 ≤ blk.length := fun {blk i d t} e l => by
    have h1 : i < blk.length := by
      have := congrArg List.length e
      simp at this
      omega
    refine ⟨?_, h1⟩
    have := congrArg (List.drop 1) e
    simpa [List.drop_drop] using this
  have head : ∀ {blk : List D} {i : Nat} {d : D} {t : List D}, blk.drop i = d :: t → blk[i]? = some d := fun {blk i d t} e => by
    have := congrArg (fun l => l[0]?) e
    simpa using this
  induction h with
  | top => exact ⟨_, .inl ⟨rfl, rfl⟩, by simp, by simp⟩
  | put h ih =>
    obtain ⟨blk, b, e, l⟩ := ih
    obtain ⟨e2, l2⟩ := next e l
    exact ⟨blk, b, e2, l2⟩
  | say h ih =>
    obtain ⟨blk, b, e, l⟩ := ih
    obtain ⟨e2, l2⟩ := next e l
    exact ⟨blk, b, e2, l2⟩
  | ite h ih =>
    obtain ⟨blk, b, e, l⟩ := ih
    obtain ⟨e2, l2⟩ := next e l
    exact ⟨blk, b, e2, l2⟩
  | loop h ih =>
    obtain ⟨blk, b, e, l⟩ := ih
    obtain ⟨e2, l2⟩ := next e l
    exact ⟨blk, b, e2, l2⟩
  | @ifA ah i w a b t fr h ih =>
    obtain ⟨blk, bl, e, l⟩ := ih
    exact ⟨a.ds, .inr ⟨ah ++ [i], 0, _, by simp, blk_look bl (head e), by rw [in_if]; rfl⟩, by simp, by simp⟩
  | @ifB ah i w a b t fr h ih =>
    obtain ⟨blk, bl, e, l⟩ := ih
    exact ⟨b.ds, .inr ⟨ah ++ [i], 1, _, by simp, blk_look bl (head e), by rw [in_if]; rfl⟩, by simp, by simp⟩
  | @body ah i w ws b t fr h ih =>
    obtain ⟨blk, bl, e, l⟩ := ih
    exact ⟨b.ds, .inr ⟨ah ++ [i], 0, _, by simp, blk_look bl (head e), by rw [in_loop]; rfl⟩, by simp, by simp⟩
/-- the row at a position -/
def Rs.hd : Rs → D
  | .nil => .non
  | .put b s _ => .tup [.str "put", .int (b : Nat), dSm s]
  | .say w _ => .tup [.str "say", dSm w]
  | .ite w a b _ => .tup [.str "if", dSm w, .tup a.ds, .tup b.ds]
  | .loop w ws b _ => .tup [.str "loop", dSm w, .tup (ws.map dSm), .tup b.ds]
theorem Rs.ds_hd {rs : Rs} (h : rs.isNil = false) : rs.ds = rs.hd :: rs.tl.ds := by
  cases rs with
  | nil => cases h
  | _ => rfl
theorem At.row {R : Rs} {ah : List Nat} {i : Nat} {rs : Rs} {fr : Fr} (h : At R ah i rs fr) (n : rs.isNil = false) : lookR R.ds (ah ++ [i]) = some rs.hd := by
  obtain ⟨blk, b, e, l⟩ := h.blk
  refine blk_look b ?_
  rw [Rs.ds_hd n] at e
  have := congrArg (fun l => l[0]?) e
  simpa using this
/-- what lies around, with the blocks -/
def Enc (R : Rs) (ah : List Nat) (i : Nat) (rs : Rs) : Fr → Prop
  | .top => ah = [] ∧ R.ds.drop i = rs.ds ∧ i ≤ R.ds.length
  | .ifF ah2 i2 t up => ∃ (w : Sm) (a b : Rs) (j g : Nat) (blk : Rs), i2 = j + 1 ∧ ah = ah2 ++ [j, g] ∧ At R ah2 j (.ite w a b t) up ∧ ((g = 0 ∧ blk = a) ∨ (g = 1 ∧ blk = b)) ∧ blk.ds.drop i = rs.ds ∧ i ≤ blk.ds.length
  | .loopF ah2 i2 w ws b t up => ah = ah2 ++ [i2, 0] ∧ At R ah2 i2 (.loop w ws b t) up ∧ b.ds.drop i = rs.ds ∧ i ≤ b.ds.length
theorem At.enc {R : Rs} {ah : List Nat} {i : Nat} {rs : Rs} {fr : Fr} (h : At R ah i rs fr) : Enc R ah i rs fr := by
  have next : ∀ {blk : List D} {i : Nat} {d : D} {t : List D}, blk.drop i = d :: t → i ≤ blk.length → blk.drop (i + 1) = t ∧ i + 1 ≤ blk.length := fun {blk i d t} e l => by
    have h1 : i < blk.length := by
      have := congrArg List.length e
      simp at this
      omega
    refine ⟨?_, h1⟩
    have := congrArg (List.drop 1) e
    simpa [List.drop_drop] using this
  have step : ∀ {ah : List Nat} {i : Nat} {rs : Rs} {fr : Fr}, rs.isNil = false → Enc R ah i rs fr → Enc R ah (i + 1) rs.tl fr := fun {ah i rs fr} n e => by
    cases fr with
    | top =>
      obtain ⟨e1, e2, e3⟩ := e
      rw [Rs.ds_hd n] at e2
      exact ⟨e1, next e2 e3⟩
    | ifF ah2 i2 t up =>
      obtain ⟨w, a, b, j, g, blk, h1, h2, h3, h4, h5, h6⟩ := e
      rw [Rs.ds_hd n] at h5
      exact ⟨w, a, b, j, g, blk, h1, h2, h3, h4, next h5 h6⟩
    | loopF ah2 i2 w ws b t up =>
      obtain ⟨h2, h3, h5, h6⟩ := e
      rw [Rs.ds_hd n] at h5
      exact ⟨h2, h3, next h5 h6⟩
  induction h with
  | top => exact ⟨rfl, by simp, by simp⟩
  | put h ih => exact step rfl ih
  | say h ih => exact step rfl ih
  | ite h ih => exact step rfl ih
  | loop h ih => exact step rfl ih
  | ifA h ih => exact ⟨_, _, _, _, 0, _, rfl, rfl, h, .inl ⟨rfl, rfl⟩, by simp, by simp⟩
  | ifB h ih => exact ⟨_, _, _, _, 1, _, rfl, rfl, h, .inr ⟨rfl, rfl⟩, by simp, by simp⟩
  | body h ih => exact ⟨rfl, h, by simp, by simp⟩
end LW

/-! ways, in plain lists -/
namespace LW
open PySem PySem.Spec PyProof.Rows L2
/-- sums put into a sum, in plain lists: the fold, as numbers -/
def pIn (s : Sm) (bs : List Sm) : Sm := ((List.range bs.length).map fun j => dot s.1 (bs.map fun b => b.1[j]?.getD 0), s.2 + dot s.1 (bs.map (·.2)))
def opp (s : Sm) : Sm := (s.1.map fun n => -n, 1 - s.2)
/-- what a way holds -/
structure St' where
  truths : List Bool
  many : Nat
  boxes : List Sm
  words : List Sm
def St'.put (s : St') (b : Nat) (e : Sm) : St' := ⟨s.truths, s.many + 1, s.boxes.set b (pIn e s.boxes), s.words⟩
def St'.say (s : St') (w : Sm) : St' := ⟨s.truths, s.many + 1, s.boxes, s.words ++ [pIn w s.boxes]⟩
def St'.turn (s : St') (w : Sm) (h : Bool) : St' := ⟨s.truths ++ [h], s.many + 1, s.boxes, s.words ++ [if h then pIn w s.boxes else opp (pIn w s.boxes)]⟩
/-- a say or a loop that a way comes to -/
structure Arr where
  st : St'
  place : List Nat
  isLoop : Bool
  ws : List Sm
def ways : Rs → List Nat → Nat → St' → (St' → List Arr) → List Arr
  | .nil, _, _, st, k => k st
  | .put b s t, ah, i, st, k => ways t ah (i + 1) (st.put b s) k
  | .say w t, ah, i, st, k => ⟨st, ah ++ [i], false, [w]⟩ :: ways t ah (i + 1) (st.say w) k
  | .ite w a b t, ah, i, st, k => ways a (ah ++ [i, 0]) 0 (st.turn w true) (fun s => ways t ah (i + 1) s k) ++ ways b (ah ++ [i, 1]) 0 (st.turn w false) (fun s => ways t ah (i + 1) s k)
  | .loop _ ws _ _, ah, i, st, _ => [⟨st, ah ++ [i], true, ws⟩]
def Fr.k : Fr → St' → List Arr
  | .top => fun _ => []
  | .ifF ah i t up => fun st => ways t ah i st up.k
  | .loopF ah i _ ws _ _ _ => fun st => [⟨st, ah ++ [i], true, ws⟩]
def Pos'.ways (p : Pos') (st : St') : List Arr := LW.ways p.rs p.ah p.i st p.fr.k
def oways : Option Pos' → St' → List Arr
  | none, _ => []
  | some p, st => p.ways st
theorem norm_ways : ∀ (fr : Fr) (rs : Rs) (ah : List Nat) (i : Nat) (st : St'), oways (norm fr rs ah i) st = ways rs ah i st fr.k
  | .top, .nil, _, _, _ => rfl
  | .ifF ah i t up, .nil, _, _, st => by
    rw [norm, norm_ways up t ah i st]
    rfl
  | .loopF ah i w ws b t up, .nil, _, _, _ => rfl
  | fr, .put b s t, ah, i, st => by cases fr <;> rfl
  | fr, .say w t, ah, i, st => by cases fr <;> rfl
  | fr, .ite w a b t, ah, i, st => by cases fr <;> rfl
  | fr, .loop w ws b t, ah, i, st => by cases fr <;> rfl
/-- the two ways on from an if, or from a loop at which a round begins -/
def Pos'.go (p : Pos') (h : Bool) : Option Pos' := match p.rs with
  | .ite _ a b t => if h then norm (.ifF p.ah (p.i + 1) t p.fr) a (p.ah ++ [p.i, 0]) 0 else norm (.ifF p.ah (p.i + 1) t p.fr) b (p.ah ++ [p.i, 1]) 0
  | .loop w ws b t => if h then norm (.loopF p.ah p.i w ws b t p.fr) b (p.ah ++ [p.i, 0]) 0 else norm p.fr t p.ah (p.i + 1)
  | rs => norm p.fr rs.tl p.ah (p.i + 1)
/-- behind the row -/
def Pos'.next (p : Pos') : Option Pos' := norm p.fr p.rs.tl p.ah (p.i + 1)
/-- the ways one row further on, the first one last -/
def further (p : Pos') (st : St') : List (Option Pos' × St') := match p.rs with
  | .nil => []
  | .put b s _ => [(p.next, st.put b s)]
  | .say w _ => [(p.next, st.say w)]
  | .ite w _ _ _ => [(p.go false, st.turn w false), (p.go true, st.turn w true)]
  | .loop .. => []
def arrs (p : Pos') (st : St') : List Arr := match p.rs with
  | .say w _ => [⟨st, p.ah ++ [p.i], false, [w]⟩]
  | .loop _ ws _ _ => [⟨st, p.ah ++ [p.i], true, ws⟩]
  | _ => []
/-- the ways that are still ahead, the last one first -/
def pend (l : List (Option Pos' × St')) : List Arr := l.reverse.flatMap fun x => oways x.1 x.2
theorem pend_app (a b : List (Option Pos' × St')) : pend (a ++ b) = pend b ++ pend a := by simp [pend]
theorem ways_further (p : Pos') (st : St') (n : p.rs.isNil = false) : oways (some p) st = arrs p st ++ pend (further p st) := by
  obtain ⟨ah, i, rs, fr⟩ := p
  cases rs with
  | nil => cases n
  | put b s t =>
    show ways t ah (i + 1) (st.put b s) fr.k = _
    simp [arrs, further, pend, Pos'.next, Rs.tl, norm_ways]
  | say w t =>
    show (⟨st, ah ++ [i], false, [w]⟩ : Arr) :: ways t ah (i + 1) (st.say w) fr.k = _
    simp [arrs, further, pend, Pos'.next, Rs.tl, norm_ways]
  | ite w a b t =>
    show ways a (ah ++ [i, 0]) 0 (st.turn w true) (fun s => ways t ah (i + 1) s fr.k) ++ ways b (ah ++ [i, 1]) 0 (st.turn w false) (fun s => ways t ah (i + 1) s fr.k) = _
    simp [arrs, further, pend, Pos'.go, norm_ways, Fr.k]
  | loop w ws b t =>
    show [(⟨st, ah ++ [i], true, ws⟩ : Arr)] = _
    simp [arrs, further, pend]
/-- how many turns a walk takes -/
def wt : Rs → Nat → Nat
  | .nil, k => k
  | .put _ _ t, k => 1 + wt t k
  | .say _ t, k => 1 + wt t k
  | .ite _ a b t, k => 1 + wt a (wt t k) + wt b (wt t k)
  | .loop .., _ => 1
def Fr.wt : Fr → Nat
  | .top => 0
  | .ifF _ _ t up => LW.wt t up.wt
  | .loopF .. => 1
def owt : Option Pos' → Nat
  | none => 0
  | some p => wt p.rs p.fr.wt
theorem norm_wt : ∀ (fr : Fr) (rs : Rs) (ah : List Nat) (i : Nat), owt (norm fr rs ah i) = wt rs fr.wt
  | .top, .nil, _, _ => rfl
  | .ifF ah i t up, .nil, _, _ => by
    rw [norm, norm_wt up t ah i]
    rfl
  | .loopF ah i w ws b t up, .nil, _, _ => rfl
  | fr, .put b s t, ah, i => by cases fr <;> rfl
  | fr, .say w t, ah, i => by cases fr <;> rfl
  | fr, .ite w a b t, ah, i => by cases fr <;> rfl
  | fr, .loop w ws b t, ah, i => by cases fr <;> rfl
theorem wt_further (p : Pos') (st : St') (n : p.rs.isNil = false) : ((further p st).map fun x => owt x.1).sum + 1 = owt (some p) := by
  obtain ⟨ah, i, rs, fr⟩ := p
  cases rs with
  | nil => cases n
  | put b s t =>
    show _ = 1 + wt t fr.wt
    simp [further, Pos'.next, Rs.tl, norm_wt]
    omega
  | say w t =>
    show _ = 1 + wt t fr.wt
    simp [further, Pos'.next, Rs.tl, norm_wt]
    omega
  | ite w a b t =>
    show _ = 1 + wt a (wt t fr.wt) + wt b (wt t fr.wt)
    simp [further, Pos'.go, norm_wt, Fr.wt]
    omega
  | loop w ws b t =>
    show _ = 1
    simp [further]
theorem wt_le : ∀ (rs : Rs) (k : Nat), wt rs k + 1 ≤ 2 ^ rs.num * (k + 1)
  | .nil, k => by simp [wt, Rs.num]
  | .put b s t, k => by
    have ih := wt_le t k
    have : 1 ≤ 2 ^ t.num * (k + 1) := Nat.le_trans (Nat.le_add_left ..) ih
    simp only [wt, Rs.num, Nat.pow_succ]
    rw [Nat.mul_right_comm]
    omega
  | .say w t, k => by
    have ih := wt_le t k
    have : 1 ≤ 2 ^ t.num * (k + 1) := Nat.le_trans (Nat.le_add_left ..) ih
    simp only [wt, Rs.num, Nat.pow_succ]
    rw [Nat.mul_right_comm]
    omega
  | .ite w a b t, k => by
    have it := wt_le t k
    have ia := wt_le a (wt t k)
    have ib := wt_le b (wt t k)
    have pa : 2 ^ a.num ≤ 2 ^ (a.num + b.num) := Nat.pow_le_pow_right (by decide) (by omega)
    have pb : 2 ^ b.num ≤ 2 ^ (a.num + b.num) := Nat.pow_le_pow_right (by decide) (by omega)
    have la := Nat.mul_le_mul pa it
    have lb := Nat.mul_le_mul pb it
    have ha : 2 ^ a.num * (wt t k + 1) ≤ 2 ^ (a.num + b.num) * (2 ^ t.num * (k + 1)) := la
    have hb : 2 ^ b.num * (wt t k + 1) ≤ 2 ^ (a.num + b.num) * (2 ^ t.num * (k + 1)) := lb
    have e : 2 ^ (a.num + b.num + t.num + 1) * (k + 1) = 2 ^ (a.num + b.num) * (2 ^ t.num * (k + 1)) + 2 ^ (a.num + b.num) * (2 ^ t.num * (k + 1)) := by
      rw [Nat.pow_succ, Nat.pow_add 2 (a.num + b.num) t.num, Nat.mul_assoc, Nat.mul_assoc, ← Nat.mul_add, ← Nat.mul_add]
      congr 2
      omega
    simp only [wt, Rs.num]
    rw [e]
    omega
  | .loop w ws b t, k => by
    have h : 2 ≤ 2 ^ (b.num + t.num + 1) := by
      have := Nat.pow_le_pow_right (n := 2) (by decide) (show 1 ≤ b.num + t.num + 1 by omega)
      simpa using this
    have := Nat.mul_le_mul h (Nat.le_add_left 1 k)
    simp only [wt, Rs.num]
    omega
theorem frwt_le : ∀ (fr : Fr), fr.wt + 1 ≤ 2 ^ fr.num
  | .top => by simp [Fr.wt, Fr.num]
  | .ifF ah i t up => by
    have ih := frwt_le up
    have it := wt_le t up.wt
    simp only [Fr.wt, Fr.num, Nat.pow_add]
    exact Nat.le_trans it (Nat.mul_le_mul (Nat.le_refl _) ih)
  | .loopF .. => by simp [Fr.wt, Fr.num]
theorem At.wt {R : Rs} {ah : List Nat} {i : Nat} {rs : Rs} {fr : Fr} (h : At R ah i rs fr) : LW.wt rs fr.wt + 1 ≤ 2 ^ R.num := by
  have h1 := wt_le rs fr.wt
  have h2 := frwt_le fr
  have h3 := h.num
  have h4 := Nat.mul_le_mul (Nat.le_refl (2 ^ rs.num)) h2
  rw [← Nat.pow_add] at h4
  have h5 := Nat.pow_le_pow_right (n := 2) (by decide) h3
  omega
/-! ### all loops, and their ways -/
def loopsP : Rs → List Nat → Nat → Fr → List Pos'
  | .nil, _, _, _ => []
  | .put _ _ t, ah, i, fr => loopsP t ah (i + 1) fr
  | .say _ t, ah, i, fr => loopsP t ah (i + 1) fr
  | .ite _ a b t, ah, i, fr => loopsP a (ah ++ [i, 0]) 0 (.ifF ah (i + 1) t fr) ++ loopsP b (ah ++ [i, 1]) 0 (.ifF ah (i + 1) t fr) ++ loopsP t ah (i + 1) fr
  | .loop w ws b t, ah, i, fr => ⟨ah, i, .loop w ws b t, fr⟩ :: (loopsP b (ah ++ [i, 0]) 0 (.loopF ah i w ws b t fr) ++ loopsP t ah (i + 1) fr)
theorem loopsP_at {R : Rs} : ∀ {rs : Rs} {ah : List Nat} {i : Nat} {fr : Fr}, At R ah i rs fr → ∀ p ∈ loopsP rs ah i fr, At R p.ah p.i p.rs p.fr ∧ ∃ w ws b t, p.rs = .loop w ws b t
  | .nil, _, _, _, _, p, hp => by cases hp
  | .put .., _, _, _, h, p, hp => loopsP_at h.put p hp
  | .say .., _, _, _, h, p, hp => loopsP_at h.say p hp
  | .ite .., _, _, _, h, p, hp => by
    rcases List.mem_append.mp hp with hp | hp
    · rcases List.mem_append.mp hp with hp | hp
      · exact loopsP_at h.ifA p hp
      · exact loopsP_at h.ifB p hp
    · exact loopsP_at h.ite p hp
  | .loop .., _, _, _, h, p, hp => by
    rcases List.mem_cons.mp hp with e | hp
    · subst e
      exact ⟨h, _, _, _, _, rfl⟩
    · rcases List.mem_append.mp hp with hp | hp
      · exact loopsP_at h.body p hp
      · exact loopsP_at h.loop p hp
theorem loopsP_len : ∀ (rs : Rs) (ah : List Nat) (i : Nat) (fr : Fr), (loopsP rs ah i fr).length ≤ rs.num
  | .nil, _, _, _ => Nat.le_refl _
  | .put _ _ t, ah, i, fr => by have := loopsP_len t ah (i + 1) fr; simp only [loopsP, Rs.num]; omega
  | .say _ t, ah, i, fr => by have := loopsP_len t ah (i + 1) fr; simp only [loopsP, Rs.num]; omega
  | .ite w a b t, ah, i, fr => by
    have h1 := loopsP_len a (ah ++ [i, 0]) 0 (.ifF ah (i + 1) t fr)
    have h2 := loopsP_len b (ah ++ [i, 1]) 0 (.ifF ah (i + 1) t fr)
    have h3 := loopsP_len t ah (i + 1) fr
    simp only [loopsP, Rs.num, List.length_append]
    omega
  | .loop w ws b t, ah, i, fr => by
    have h2 := loopsP_len b (ah ++ [i, 0]) 0 (.loopF ah i w ws b t fr)
    have h3 := loopsP_len t ah (i + 1) fr
    simp only [loopsP, Rs.num, List.length_cons, List.length_append]
    omega
/-- the most rows that are still done -/
def mx : Rs → Nat → Nat
  | .nil, k => k
  | .put _ _ t, k => 1 + mx t k
  | .say _ t, k => 1 + mx t k
  | .ite _ a b t, k => 1 + max (mx a (mx t k)) (mx b (mx t k))
  | .loop .., _ => 1
def Fr.mx : Fr → Nat
  | .top => 0
  | .ifF _ _ t up => LW.mx t up.mx
  | .loopF .. => 1
def omx : Option Pos' → Nat
  | none => 0
  | some p => mx p.rs p.fr.mx
theorem norm_mx : ∀ (fr : Fr) (rs : Rs) (ah : List Nat) (i : Nat), omx (norm fr rs ah i) = mx rs fr.mx
  | .top, .nil, _, _ => rfl
  | .ifF ah i t up, .nil, _, _ => by
    rw [norm, norm_mx up t ah i]
    rfl
  | .loopF ah i w ws b t up, .nil, _, _ => rfl
  | fr, .put b s t, ah, i => by cases fr <;> rfl
  | fr, .say w t, ah, i => by cases fr <;> rfl
  | fr, .ite w a b t, ah, i => by cases fr <;> rfl
  | fr, .loop w ws b t, ah, i => by cases fr <;> rfl
theorem mx_le : ∀ (rs : Rs) (k : Nat), mx rs k ≤ rs.num + k
  | .nil, k => by simp [mx, Rs.num]
  | .put b s t, k => by have := mx_le t k; simp only [mx, Rs.num]; omega
  | .say w t, k => by have := mx_le t k; simp only [mx, Rs.num]; omega
  | .ite w a b t, k => by
    have := mx_le t k
    have := mx_le a (mx t k)
    have := mx_le b (mx t k)
    simp only [mx, Rs.num]
    omega
  | .loop .., k => by simp only [mx, Rs.num]; omega
theorem frmx_le : ∀ (fr : Fr), fr.mx ≤ fr.num
  | .top => by simp [Fr.mx, Fr.num]
  | .ifF ah i t up => by
    have := frmx_le up
    have := mx_le t up.mx
    simp only [Fr.mx, Fr.num]
    omega
  | .loopF .. => by simp [Fr.mx, Fr.num]
theorem At.mx {R : Rs} {ah : List Nat} {i : Nat} {rs : Rs} {fr : Fr} (h : At R ah i rs fr) : LW.mx rs fr.mx ≤ R.num := by
  have h1 := mx_le rs fr.mx
  have h2 := frmx_le fr
  have h3 := h.num
  omega
/-- sums over n boxes, their numbers below 2 to the w -/
def GoodB (n w : Nat) (bs : List Sm) : Prop := ∀ b ∈ bs, b.1.length = n ∧ Wd w b.2 ∧ ∀ x ∈ b.1, Wd w x
theorem GoodB.mono {n w w' : Nat} {bs : List Sm} (h : GoodB n w bs) (l : w ≤ w') : GoodB n w' bs := fun b hb => ⟨(h b hb).1, (h b hb).2.1.mono l, fun x hx => ((h b hb).2.2 x hx).mono l⟩
theorem pIn_good {n w v : Nat} {s : Sm} {bs : List Sm} (hb : GoodB n w bs) (ln : bs.length = n) (n3 : n ≤ 3) (hs : ∀ x ∈ s.1, Wd v x) (hl : s.1.length = n) (hs2 : Wd (v + w + 4) s.2) : (pIn s bs).1.length = n ∧ Wd (v + w + 5) (pIn s bs).2 ∧ ∀ x ∈ (pIn s bs).1, Wd (v + w + 5) x := by
  have d : ∀ (f : Sm → Int), (∀ b ∈ bs, Wd w (f b)) → Wd (v + w + 3) (dot s.1 (bs.map f)) := fun f hf => by
    refine (dotWd hs (fun y hy => ?_)).mono (show v + w + s.1.length ≤ v + w + 3 by omega)
    obtain ⟨b, hb', rfl⟩ := List.mem_map.mp hy
    exact hf b hb'
  refine ⟨by simp [pIn, ln], ?_, fun x hx => ?_⟩
  · exact Wd.add (n := v + w + 4) hs2 ((d _ fun b hb' => (hb b hb').2.1).mono (by omega))
  · obtain ⟨j, _, rfl⟩ := List.mem_map.mp hx
    refine (d _ fun b hb' => ?_).mono (by omega)
    cases e : b.1[j]? with
    | none =>
      show Wd w 0
      show (0 : Int).natAbs < 2 ^ w
      exact Nat.two_pow_pos w
    | some y => exact (hb b hb').2.2 y (List.mem_of_getElem? e)
theorem opp_good {n w : Nat} {s : Sm} (h : s.1.length = n ∧ Wd w s.2 ∧ ∀ x ∈ s.1, Wd w x) : (opp s).1.length = n ∧ Wd (w + 1) (opp s).2 ∧ ∀ x ∈ (opp s).1, Wd (w + 1) x := by
  refine ⟨by simp [opp, h.1], ?_, fun x hx => ?_⟩
  · have := h.2.1
    unfold Wd at this ⊢
    simp only [opp]
    rw [Nat.pow_succ]
    have : 1 ≤ 2 ^ w := Nat.two_pow_pos w
    omega
  · obtain ⟨y, hy, rfl⟩ := List.mem_map.mp hx
    have := h.2.2 y hy
    unfold Wd at this ⊢
    rw [Nat.pow_succ]
    omega
/-- the state of a way: n boxes, at most 14 rows -/
def GoodSt (n : Nat) (left : Nat) (st : St') : Prop := st.many + left ≤ 14 ∧ st.boxes.length = n ∧ GoodB n (20 * (st.many + 1)) st.boxes ∧ GoodB n (20 * (st.many + 1)) st.words ∧ st.words.length ≤ 3 + st.many ∧ st.truths.length ≤ st.many
theorem wdSm {i : Int} (h1 : -200 ≤ i) (h2 : i ≤ 200) : Wd 8 i := by
  show i.natAbs < 2 ^ 8
  omega
theorem sumW_wd {many : Nat} {s : Sm} (h : SumW many s) : s.1.length = many ∧ Wd 8 s.2 ∧ ∀ x ∈ s.1, Wd 8 x := by
  obtain ⟨h1, h2, h3, h4⟩ := h
  exact ⟨h1, wdSm (by omega) (by omega), fun x hx => wdSm (by have := h2 x hx; omega) (by have := h2 x hx; omega)⟩
theorem pIn_step {n w : Nat} {s : Sm} {bs : List Sm} (hb : GoodB n w bs) (ln : bs.length = n) (n3 : n ≤ 3) (hs : s.1.length = n ∧ Wd 9 s.2 ∧ ∀ x ∈ s.1, Wd 9 x) : (pIn s bs).1.length = n ∧ Wd (w + 14) (pIn s bs).2 ∧ ∀ x ∈ (pIn s bs).1, Wd (w + 14) x := by
  obtain ⟨h1, h2, h3⟩ := pIn_good (v := 9) hb ln n3 hs.2.2 hs.1 (hs.2.1.mono (by omega))
  exact ⟨h1, h2.mono (by omega), fun x hx => (h3 x hx).mono (by omega)⟩
theorem good3 {n w w' : Nat} {s : Sm} (h : s.1.length = n ∧ Wd w s.2 ∧ ∀ x ∈ s.1, Wd w x) (l : w ≤ w') : s.1.length = n ∧ Wd w' s.2 ∧ ∀ x ∈ s.1, Wd w' x := ⟨h.1, h.2.1.mono l, fun x hx => (h.2.2 x hx).mono l⟩
theorem goodSnoc {n w : Nat} {bs : List Sm} {s : Sm} (h : GoodB n w bs) (hs : s.1.length = n ∧ Wd w s.2 ∧ ∀ x ∈ s.1, Wd w x) : GoodB n w (bs ++ [s]) := fun b hb => by
  rcases List.mem_append.mp hb with hb | hb
  · exact h b hb
  · rw [List.mem_singleton.mp hb]
    exact hs
theorem GoodSt.put {n left : Nat} {st : St'} {b : Nat} {s : Sm} (h : GoodSt n (left + 1) st) (n3 : n ≤ 3) (hs : SumW n s) : GoodSt n left (st.put b s) := by
  obtain ⟨h1, h2, h3, h4, h5, h6⟩ := h
  refine ⟨by simp only [St'.put]; omega, by simp [St'.put, h2], ?_, h4.mono (by simp only [St'.put]; omega), by simp only [St'.put]; omega, by simp only [St'.put]; omega⟩
  intro x hx
  simp only [St'.put] at hx ⊢
  rcases List.mem_or_eq_of_mem_set hx with hx | e
  · exact good3 (h3 x hx) (by omega)
  · subst e
    exact good3 (pIn_step h3 h2 n3 (good3 (sumW_wd hs) (by omega))) (by omega)
theorem GoodSt.say {n left : Nat} {st : St'} {w : Sm} (h : GoodSt n (left + 1) st) (n3 : n ≤ 3) (hs : SumW n w) : GoodSt n left (st.say w) := by
  obtain ⟨h1, h2, h3, h4, h5, h6⟩ := h
  refine ⟨by simp only [St'.say]; omega, h2, h3.mono (by simp only [St'.say]; omega), ?_, by simp only [St'.say, List.length_append, List.length_singleton]; omega, by simp only [St'.say]; omega⟩
  exact goodSnoc (h4.mono (by simp only [St'.say]; omega)) (good3 (pIn_step h3 h2 n3 (good3 (sumW_wd hs) (by omega))) (by simp only [St'.say]; omega))
theorem GoodSt.turn {n left : Nat} {st : St'} {w : Sm} {t : Bool} (h : GoodSt n (left + 1) st) (n3 : n ≤ 3) (hs : SumW n w) : GoodSt n left (st.turn w t) := by
  obtain ⟨h1, h2, h3, h4, h5, h6⟩ := h
  have p := pIn_step h3 h2 n3 (good3 (sumW_wd hs) (show 8 ≤ 9 by omega))
  refine ⟨by simp only [St'.turn]; omega, h2, h3.mono (by simp only [St'.turn]; omega), ?_, by simp only [St'.turn, List.length_append, List.length_singleton]; omega, by simp only [St'.turn, List.length_append, List.length_singleton]; omega⟩
  refine goodSnoc (h4.mono (by simp only [St'.turn]; omega)) ?_
  cases t with
  | true => exact good3 p (by simp only [St'.turn]; omega)
  | false => exact good3 (opp_good p) (by simp only [St'.turn]; omega)
theorem GoodSt.less {n l l' : Nat} {st : St'} (h : GoodSt n l st) (hl : l' ≤ l) : GoodSt n l' st := ⟨by have := h.1; omega, h.2⟩
end LW

/-! the rows as single deeds, in plain lists -/
namespace LW
open PySem PySem.Spec PyProof.Rows L2
inductive De where
  | row (p : Pos')
  | br (p : Pos') (to : Nat)
  | jump (pl : List Nat) (to : Nat)
def clen : Rs → Nat
  | .nil => 0
  | .put _ _ t => 1 + clen t
  | .say _ t => 1 + clen t
  | .ite _ a b t => 2 + clen a + clen b + clen t
  | .loop _ _ b t => 2 + clen b + clen t
def codeR : Rs → List Nat → Nat → Fr → Nat → List De
  | .nil, _, _, _, _ => []
  | .put b s t, ah, i, fr, n => .row ⟨ah, i, .put b s t, fr⟩ :: codeR t ah (i + 1) fr (n + 1)
  | .say w t, ah, i, fr, n => .row ⟨ah, i, .say w t, fr⟩ :: codeR t ah (i + 1) fr (n + 1)
  | .ite w a b t, ah, i, fr, n => .br ⟨ah, i, .ite w a b t, fr⟩ (n + 2 + clen a) :: (codeR a (ah ++ [i, 0]) 0 (.ifF ah (i + 1) t fr) (n + 1) ++ .jump (ah ++ [i]) (n + 2 + clen a + clen b) :: (codeR b (ah ++ [i, 1]) 0 (.ifF ah (i + 1) t fr) (n + 2 + clen a) ++ codeR t ah (i + 1) fr (n + 2 + clen a + clen b)))
  | .loop w ws b t, ah, i, fr, n => .br ⟨ah, i, .loop w ws b t, fr⟩ (n + 2 + clen b) :: (codeR b (ah ++ [i, 0]) 0 (.loopF ah i w ws b t fr) (n + 1) ++ .jump (ah ++ [i]) n :: codeR t ah (i + 1) fr (n + 2 + clen b))
theorem codeR_len : ∀ (rs : Rs) (ah : List Nat) (i : Nat) (fr : Fr) (n : Nat), (codeR rs ah i fr n).length = clen rs
  | .nil, _, _, _, _ => rfl
  | .put b s t, ah, i, fr, n => by simp [codeR, clen, codeR_len t]; omega
  | .say w t, ah, i, fr, n => by simp [codeR, clen, codeR_len t]; omega
  | .ite w a b t, ah, i, fr, n => by simp [codeR, clen, codeR_len a, codeR_len b, codeR_len t]; omega
  | .loop w ws b t, ah, i, fr, n => by simp [codeR, clen, codeR_len b, codeR_len t]; omega
theorem clen_le : ∀ rs : Rs, clen rs ≤ 2 * rs.num
  | .nil => Nat.le_refl _
  | .put _ _ t => by have := clen_le t; simp only [clen, Rs.num]; omega
  | .say _ t => by have := clen_le t; simp only [clen, Rs.num]; omega
  | .ite _ a b t => by have := clen_le t; have := clen_le a; have := clen_le b; simp only [clen, Rs.num]; omega
  | .loop _ _ b t => by have := clen_le t; have := clen_le b; simp only [clen, Rs.num]; omega
/-- where a block's rest begins among the deeds -/
inductive AtC (R : Rs) : List Nat → Nat → Rs → Fr → Nat → Prop
  | top : AtC R [] 0 R .top 0
  | put {ah i b s t fr j} (h : AtC R ah i (.put b s t) fr j) : AtC R ah (i + 1) t fr (j + 1)
  | say {ah i w t fr j} (h : AtC R ah i (.say w t) fr j) : AtC R ah (i + 1) t fr (j + 1)
  | ite {ah i w a b t fr j} (h : AtC R ah i (.ite w a b t) fr j) : AtC R ah (i + 1) t fr (j + 2 + clen a + clen b)
  | loop {ah i w ws b t fr j} (h : AtC R ah i (.loop w ws b t) fr j) : AtC R ah (i + 1) t fr (j + 2 + clen b)
  | ifA {ah i w a b t fr j} (h : AtC R ah i (.ite w a b t) fr j) : AtC R (ah ++ [i, 0]) 0 a (.ifF ah (i + 1) t fr) (j + 1)
  | ifB {ah i w a b t fr j} (h : AtC R ah i (.ite w a b t) fr j) : AtC R (ah ++ [i, 1]) 0 b (.ifF ah (i + 1) t fr) (j + 2 + clen a)
  | body {ah i w ws b t fr j} (h : AtC R ah i (.loop w ws b t) fr j) : AtC R (ah ++ [i, 0]) 0 b (.loopF ah i w ws b t fr) (j + 1)
theorem AtC.at_ {R : Rs} {ah : List Nat} {i : Nat} {rs : Rs} {fr : Fr} {j : Nat} (h : AtC R ah i rs fr j) : At R ah i rs fr := by
  induction h with
  | top => exact .top
  | put h ih => exact ih.put
  | say h ih => exact ih.say
  | ite h ih => exact ih.ite
  | loop h ih => exact ih.loop
  | ifA h ih => exact ih.ifA
  | ifB h ih => exact ih.ifB
  | body h ih => exact ih.body
def EndC (R : Rs) : Fr → Nat → List De → Prop
  | .top, _, rest => rest = []
  | .ifF ah i t up, e, rest => (∃ pl e2 r, rest = .jump pl e2 :: r ∧ AtC R ah i t up e2) ∨ AtC R ah i t up e
  | .loopF ah i w ws b t up, _, rest => ∃ pl e2 r, rest = .jump pl e2 :: r ∧ AtC R ah i (.loop w ws b t) up e2
def codeOf (R : Rs) : List De := codeR R [] 0 .top 0
theorem AtC.split {R : Rs} {ah : List Nat} {i : Nat} {rs : Rs} {fr : Fr} {j : Nat} (h : AtC R ah i rs fr j) : ∃ front rest, codeOf R = front ++ (codeR rs ah i fr j ++ rest) ∧ front.length = j ∧ EndC R fr (j + clen rs) rest := by
  induction h with
  | top => exact ⟨[], [], by simp [codeOf], rfl, rfl⟩
  | @put ah i b s t fr j h ih =>
    obtain ⟨f, r, e, l, en⟩ := ih
    refine ⟨f ++ [.row ⟨ah, i, .put b s t, fr⟩], r, by rw [e]; simp [codeR], by simp [l], ?_⟩
    rw [show j + 1 + clen t = j + clen (.put b s t) by simp only [clen]; omega]
    exact en
  | @say ah i w t fr j h ih =>
    obtain ⟨f, r, e, l, en⟩ := ih
    refine ⟨f ++ [.row ⟨ah, i, .say w t, fr⟩], r, by rw [e]; simp [codeR], by simp [l], ?_⟩
    rw [show j + 1 + clen t = j + clen (.say w t) by simp only [clen]; omega]
    exact en
  | @ite ah i w a b t fr j h ih =>
    obtain ⟨f, r, e, l, en⟩ := ih
    refine ⟨f ++ (.br ⟨ah, i, .ite w a b t, fr⟩ (j + 2 + clen a) :: (codeR a (ah ++ [i, 0]) 0 (.ifF ah (i + 1) t fr) (j + 1) ++ .jump (ah ++ [i]) (j + 2 + clen a + clen b) :: codeR b (ah ++ [i, 1]) 0 (.ifF ah (i + 1) t fr) (j + 2 + clen a))), r, by rw [e]; simp [codeR], by simp [l, codeR_len]; omega, ?_⟩
    rw [show j + 2 + clen a + clen b + clen t = j + clen (.ite w a b t) by simp only [clen]; omega]
    exact en
  | @loop ah i w ws b t fr j h ih =>
    obtain ⟨f, r, e, l, en⟩ := ih
    refine ⟨f ++ (.br ⟨ah, i, .loop w ws b t, fr⟩ (j + 2 + clen b) :: (codeR b (ah ++ [i, 0]) 0 (.loopF ah i w ws b t fr) (j + 1) ++ [.jump (ah ++ [i]) j])), r, by rw [e]; simp [codeR], by simp [l, codeR_len]; omega, ?_⟩
    rw [show j + 2 + clen b + clen t = j + clen (.loop w ws b t) by simp only [clen]; omega]
    exact en
  | @ifA ah i w a b t fr j h ih =>
    obtain ⟨f, r, e, l, en⟩ := ih
    exact ⟨f ++ [.br ⟨ah, i, .ite w a b t, fr⟩ (j + 2 + clen a)], .jump (ah ++ [i]) (j + 2 + clen a + clen b) :: (codeR b (ah ++ [i, 1]) 0 (.ifF ah (i + 1) t fr) (j + 2 + clen a) ++ (codeR t ah (i + 1) fr (j + 2 + clen a + clen b) ++ r)), by rw [e]; simp [codeR], by simp [l], .inl ⟨_, _, _, rfl, h.ite⟩⟩
  | @ifB ah i w a b t fr j h ih =>
    obtain ⟨f, r, e, l, en⟩ := ih
    exact ⟨f ++ (.br ⟨ah, i, .ite w a b t, fr⟩ (j + 2 + clen a) :: (codeR a (ah ++ [i, 0]) 0 (.ifF ah (i + 1) t fr) (j + 1) ++ [.jump (ah ++ [i]) (j + 2 + clen a + clen b)])), codeR t ah (i + 1) fr (j + 2 + clen a + clen b) ++ r, by rw [e]; simp [codeR], by simp [l, codeR_len]; omega, .inr h.ite⟩
  | @body ah i w ws b t fr j h ih =>
    obtain ⟨f, r, e, l, en⟩ := ih
    exact ⟨f ++ [.br ⟨ah, i, .loop w ws b t, fr⟩ (j + 2 + clen b)], .jump (ah ++ [i]) j :: (codeR t ah (i + 1) fr (j + 2 + clen b) ++ r), by rw [e]; simp [codeR], by simp [l], _, _, _, rfl, h⟩
def frD : Fr → Nat
  | .top => 0
  | .ifF _ _ _ up => frD up + 1
  | .loopF _ _ _ _ _ _ up => frD up + 1
/-- the deed at a row -/
def deAt (p : Pos') (j : Nat) : De := match p.rs with
  | .ite _ a _ _ => .br p (j + 2 + clen a)
  | .loop _ _ b _ => .br p (j + 2 + clen b)
  | _ => .row p
theorem code_hd {rs : Rs} (n : rs.isNil = false) (ah : List Nat) (i : Nat) (fr : Fr) (j : Nat) : ∃ r, codeR rs ah i fr j = deAt ⟨ah, i, rs, fr⟩ j :: r := by
  cases rs with
  | nil => cases n
  | _ => exact ⟨_, rfl⟩
theorem norm_some {fr : Fr} {rs : Rs} {ah : List Nat} {i : Nat} (n : rs.isNil = false) : norm fr rs ah i = some ⟨ah, i, rs, fr⟩ := by
  cases rs with
  | nil => cases n
  | _ => cases fr <;> rfl
theorem codeLook {R : Rs} : ∀ {fr : Fr} {ah : List Nat} {i : Nat} {rs : Rs} {j : Nat}, AtC R ah i rs fr j →
    (∃ p : Pos', norm fr rs ah i = some p ∧ AtC R p.ah p.i p.rs p.fr j ∧ p.rs.isNil = false ∧ (codeOf R)[j]? = some (deAt p j)) ∨
    (norm fr rs ah i = none ∧ j = (codeOf R).length) ∨
    ∃ (pl : List Nat) (e : Nat) (ah' : List Nat) (i' : Nat) (rs' : Rs) (fr' : Fr), (codeOf R)[j]? = some (.jump pl e) ∧ AtC R ah' i' rs' fr' e ∧ norm fr' rs' ah' i' = norm fr rs ah i ∧ frD fr' < frD fr := by
  intro fr
  induction fr with
  | top =>
    intro ah i rs j h
    cases e : rs.isNil with
    | false =>
      obtain ⟨f, r, ec, l, en⟩ := h.split
      obtain ⟨t, et⟩ := code_hd e ah i .top j
      exact .inl ⟨⟨ah, i, rs, .top⟩, norm_some e, h, e, by rw [ec, et, ← l]; simp⟩
    | true =>
      obtain ⟨f, r, ec, l, en⟩ := h.split
      cases rs with
      | nil =>
        have en : r = [] := en
        refine .inr (.inl ⟨rfl, ?_⟩)
        rw [ec, en]
        simp [codeR, l]
      | _ => cases e
  | ifF ah2 i2 t up ihu =>
    intro ah i rs j h
    cases e : rs.isNil with
    | false =>
      obtain ⟨f, r, ec, l, en⟩ := h.split
      obtain ⟨t2, et⟩ := code_hd e ah i (.ifF ah2 i2 t up) j
      exact .inl ⟨⟨ah, i, rs, _⟩, norm_some e, h, e, by rw [ec, et, ← l]; simp⟩
    | true =>
      obtain ⟨f, r, ec, l, en⟩ := h.split
      cases rs with
      | nil =>
        rcases en with ⟨pl, e2, r2, er, h2⟩ | h2
        · refine .inr (.inr ⟨pl, e2, ah2, i2, t, up, ?_, h2, rfl, Nat.lt_succ_self _⟩)
          rw [ec, er, ← l]
          simp [codeR]
        · have h2 : AtC R ah2 i2 t up j := h2
          rcases ihu h2 with ⟨p, h3⟩ | h3 | ⟨pl, e2, ah', i', rs', fr', h3, h4, h5, h6⟩
          · exact .inl ⟨p, h3⟩
          · exact .inr (.inl h3)
          · exact .inr (.inr ⟨pl, e2, ah', i', rs', fr', h3, h4, h5, Nat.lt_trans h6 (Nat.lt_succ_self _)⟩)
      | _ => cases e
  | loopF ah2 i2 w ws b t up ihu =>
    intro ah i rs j h
    cases e : rs.isNil with
    | false =>
      obtain ⟨f, r, ec, l, en⟩ := h.split
      obtain ⟨t2, et⟩ := code_hd e ah i (.loopF ah2 i2 w ws b t up) j
      exact .inl ⟨⟨ah, i, rs, _⟩, norm_some e, h, e, by rw [ec, et, ← l]; simp⟩
    | true =>
      obtain ⟨f, r, ec, l, en⟩ := h.split
      cases rs with
      | nil =>
        obtain ⟨pl, e2, r2, er, h2⟩ := en
        refine .inr (.inr ⟨pl, e2, ah2, i2, _, up, ?_, h2, ?_, Nat.lt_succ_self _⟩)
        · rw [ec, er, ← l]
          simp [codeR]
        · rw [norm_some rfl]
          rfl
      | _ => cases e
/-- the loops, in the order of the deeds -/
def loopD : De → List Pos'
  | .br p _ => match p.rs with
    | .loop .. => [p]
    | _ => []
  | _ => []
theorem loopsD : ∀ (rs : Rs) (ah : List Nat) (i : Nat) (fr : Fr) (n : Nat), (codeR rs ah i fr n).flatMap loopD = loopsP rs ah i fr
  | .nil, _, _, _, _ => rfl
  | .put b s t, ah, i, fr, n => by simp [codeR, loopsP, loopD, loopsD t]
  | .say w t, ah, i, fr, n => by simp [codeR, loopsP, loopD, loopsD t]
  | .ite w a b t, ah, i, fr, n => by simp [codeR, loopsP, loopD, loopsD a, loopsD b, loopsD t]
  | .loop w ws b t, ah, i, fr, n => by simp [codeR, loopsP, loopD, loopsD b, loopsD t]
/-- each deed of a row stands where it says -/
theorem codeAt {R : Rs} : ∀ {rs : Rs} {ah : List Nat} {i : Nat} {fr : Fr} {n : Nat}, AtC R ah i rs fr n → ∀ (k : Nat) (d : De), (codeR rs ah i fr n)[k]? = some d → (∃ pl to, d = .jump pl to) ∨ ∃ p : Pos', AtC R p.ah p.i p.rs p.fr (n + k) ∧ p.rs.isNil = false ∧ d = deAt p (n + k)
  | .nil, _, _, _, _, _, k, d, e => by simp [codeR] at e
  | .put b s t, ah, i, fr, n, h, k, d, e => by
    cases k with
    | zero => cases e; exact .inr ⟨⟨ah, i, .put b s t, fr⟩, h, rfl, rfl⟩
    | succ k =>
      have := codeAt h.put k d (by simpa [codeR] using e)
      rwa [show n + 1 + k = n + (k + 1) by omega] at this
  | .say w t, ah, i, fr, n, h, k, d, e => by
    cases k with
    | zero => cases e; exact .inr ⟨⟨ah, i, .say w t, fr⟩, h, rfl, rfl⟩
    | succ k =>
      have := codeAt h.say k d (by simpa [codeR] using e)
      rwa [show n + 1 + k = n + (k + 1) by omega] at this
  | .ite w a b t, ah, i, fr, n, h, k, d, e => by
    cases k with
    | zero => cases e; exact .inr ⟨⟨ah, i, .ite w a b t, fr⟩, h, rfl, rfl⟩
    | succ k =>
      have e : (codeR a (ah ++ [i, 0]) 0 (.ifF ah (i + 1) t fr) (n + 1) ++ De.jump (ah ++ [i]) (n + 2 + clen a + clen b) :: (codeR b (ah ++ [i, 1]) 0 (.ifF ah (i + 1) t fr) (n + 2 + clen a) ++ codeR t ah (i + 1) fr (n + 2 + clen a + clen b)))[k]? = some d := by simpa [codeR] using e
      by_cases c : k < clen a
      · rw [List.getElem?_append_left (by rw [codeR_len]; exact c)] at e
        have := codeAt h.ifA k d e
        rwa [show n + 1 + k = n + (k + 1) by omega] at this
      · rw [List.getElem?_append_right (by rw [codeR_len]; omega), codeR_len] at e
        obtain ⟨m, rfl⟩ : ∃ m, k = clen a + m := ⟨k - clen a, by omega⟩
        rw [show clen a + m - clen a = m by omega] at e
        cases m with
        | zero => cases e; exact .inl ⟨_, _, rfl⟩
        | succ m =>
          rw [List.getElem?_cons_succ] at e
          by_cases c2 : m < clen b
          · rw [List.getElem?_append_left (by rw [codeR_len]; exact c2)] at e
            have := codeAt h.ifB m d e
            rwa [show n + 2 + clen a + m = n + (clen a + (m + 1) + 1) by omega] at this
          · rw [List.getElem?_append_right (by rw [codeR_len]; omega), codeR_len] at e
            have := codeAt h.ite (m - clen b) d e
            rwa [show n + 2 + clen a + clen b + (m - clen b) = n + (clen a + (m + 1) + 1) by omega] at this
  | .loop w ws b t, ah, i, fr, n, h, k, d, e => by
    cases k with
    | zero => cases e; exact .inr ⟨⟨ah, i, .loop w ws b t, fr⟩, h, rfl, rfl⟩
    | succ k =>
      have e : (codeR b (ah ++ [i, 0]) 0 (.loopF ah i w ws b t fr) (n + 1) ++ De.jump (ah ++ [i]) n :: codeR t ah (i + 1) fr (n + 2 + clen b))[k]? = some d := by simpa [codeR] using e
      by_cases c : k < clen b
      · rw [List.getElem?_append_left (by rw [codeR_len]; exact c)] at e
        have := codeAt h.body k d e
        rwa [show n + 1 + k = n + (k + 1) by omega] at this
      · rw [List.getElem?_append_right (by rw [codeR_len]; omega), codeR_len] at e
        obtain ⟨m, rfl⟩ : ∃ m, k = clen b + m := ⟨k - clen b, by omega⟩
        rw [show clen b + m - clen b = m by omega] at e
        cases m with
        | zero => cases e; exact .inl ⟨_, _, rfl⟩
        | succ m =>
          rw [List.getElem?_cons_succ] at e
          have := codeAt h.loop m d e
          rwa [show n + 2 + clen b + m = n + (clen b + (m + 1) + 1) by omega] at this
end LW

/-! sorted(range(n), key=lambda which: told[which][4]) -/
namespace LW
open PySem PySem.Spec PyProof.Rows L2 LamX PySem.W
abbrev lamScope : Scope := { kind := .function, names := [(PySem.Str.ofString "which", .local), (PySem.Str.ofString "told", .free)], isGenerator := false, isCoroutine := false, more := [] }
abbrev lamBody (p1 p2 p3 p4 p5 : Pos) (j : Nat) : Expr := .Subscript (.Subscript (.Name (PySem.Str.ofString "told") p1) (.Name (PySem.Str.ofString "which") p2) p3) (.Constant (.int 4) j p4) p5
section
variable {prog : Program} {w : World} {A : Around} {s : Shared}
/-- one call of the key -/
theorem lamTurn {f c' c L t : Addr} {q : Str} {params : Arguments} {p1 p2 p3 p4 p5 : Pos} {j : Nat} {cl : List (Str × Addr)} {pm ctv : Value} {its us : List Value} {x : Nat} {kx : Int} {tx t4 : Tok}
    (hd : A.depth < recursionLimit) (lim : s.heap.NoLimit)
    (ho : s.heap.get? f = some (PySem.W.kla_obj "<lambda>" q params (lamBody p1 p2 p3 p4 p5 j) lamScope cl pm c' ctv)) (hcd : s.heap.CodeRec (.ref c') q)
    (hbind : bindArgs (PySem.W.kla_fn "<lambda>" q params (lamBody p1 p2 p3 p4 p5 j) lamScope cl pm (.ref c') ctv) ⟨[.int x tx], []⟩ = pure [(PySem.Str.ofString "which", .int x tx)])
    (hcl : cl.lookup (PySem.Str.ofString "told") = some c) (hcell : s.heap.IsCell c (some (.ref L))) (hL : s.heap.IsList L its.toArray) (hx : its[x]? = some (.ref t)) (ht : IsTup s.heap t us.toArray) (h4 : us[4]? = some (.int kx t4)) (hlt : (x : Int) < 2 ^ 62) :
    wpAny (model prog w) A (call (.ref f) [.int x tx]) (KeyPure (.int kx) s) (fun _ _ => False) s := by
  have hsub : ∀ {T : List Value}, T.length = 5 → True := fun _ => trivial
  refine wpAny_call (codeAny_mono (PySem.W.kla_callFunE (R := fun r s' => ∃ v, r = .ok (.ret v) ∧ KeyPure (.int kx) s v s') hd ho rfl rfl rfl rfl hcd ?_) fun r s' hq => ?_)
  · rw [hbind]
    refine wpAny_pure (wpAny_newFunctionEnv (fun y hy => ?_) (fun y hy => ?_) (fun h₁ hns hsb => ⟨lim.fresh _ hsb, ?_⟩) rfl)
    · rcases List.mem_cons.mp hy with rfl | hy
      · exact fun z => by cases z
      rcases List.mem_cons.mp hy with rfl | hy
      · exact fun z => by cases z
      · cases hy
    · rw [List.mem_singleton.mp hy]
      show lamScope.names.lookup (PySem.Str.ofString "which") = some .local
      decide +kernel
    · have kp : ∀ b o, s.heap.get? b = some o → h₁.get? b = some o := fun b o e => hsb.extBut b o (Nat.ne_of_lt (Heap.lt_size e)) (Heap.get?_push_of_some _ e)
      refine PySem.W.kla_codeExpr ?_
      obtain ⟨co, hco, hcd'⟩ := hcell
      refine Subscript_ (Subscript_ (wpAny_Name (wpAny_loadName_free (c := c) (v := .ref L) rfl (by show lamScope.names.lookup _ = _; decide +kernel) hcl ⟨co, kp _ _ hco, hcd'⟩ ?_ (by decide +kernel)) (by decide +kernel)))
      refine wpAny_Name (wpAny_loadName_local (v := .int x tx) rfl (by show lamScope.names.lookup _ = _; decide +kernel) hns (by simp [List.lookup]) ?_) (by decide +kernel)
      have hL' : h₁.IsList L its.toArray := by
        obtain ⟨o, e, r⟩ := hL
        exact ⟨o, kp _ _ e, r⟩
      have ht' : IsTup h₁ t us.toArray := by
        obtain ⟨o, e, r⟩ := ht
        exact ⟨o, kp _ _ e, r⟩
      refine item_listR hL' (Int.natCast_nonneg _) (by omega) (by simpa using hx) ?_
      refine wpAny_Constant_int ?_
      have l4 : 4 < us.length := (List.getElem?_eq_some_iff.mp h4).1
      refine subscriptTail_builtinR (x := .int kx t4) ht'.typeIs slot_tuple_getitem.lookup
        (getItem_tuple (j := 4) (Q := fun r s' => r = .int kx t4 ∧ _) ht' (by decide) (by decide) ?_ (by simpa using h4) ⟨rfl, ?_⟩) (by with_unfolding_all rfl)
      · rw [List.size_toArray]
        exact seqIndex_of (by decide) (by omega)
      · exact ⟨_, rfl, h₁, _, rfl, kp, .int _ _⟩
  · obtain ⟨v, rfl, k⟩ := hq
    exact k
end

section
variable {prog : Program} {w : World} {A : Around} {E : Value → Shared → Prop} {s : Shared}
theorem eachRange : ∀ (acc : List Value) (k : Nat), (∀ (j : Nat) (v : Value), acc[j]? = some v → ∃ t, v = .int ((k + j : Nat) : Int) t) → EachIs (fun v (x : Nat) => ∃ t, v = .int (x : Int) t) acc (List.range' k acc.length)
  | [], _, _ => .nil
  | v :: r, k, h => by
    rw [List.length_cons, List.range'_succ]
    refine .cons (h 0 v rfl) (eachRange r (k + 1) fun j u e => ?_)
    rw [show k + 1 + j = k + (j + 1) by omega]
    exact h (j + 1) u (by simpa using e)
/-- sorted(range(n), key=f) -/
theorem sorted_rng {r f : Addr} {n : Nat} {t u v : Tok} {Q : Value → Shared → Prop} (k : Nat → Int) (hh : A.handled = none) (hr : IsRange s.heap r 0 (n : Int) 1 t u v) (hn : n ≤ 2 ^ 24) (hu : A.units + 3 < cLine)
    (turn : ∀ (x : Nat) (tx : Tok), x < n → ∀ (h : Heap) (tk : Nat), (∀ b o, s.heap.get? b = some o → h.get? b = some o) → wpAny (model prog w) A.in1.in1 (call (.ref f) [.int x tx]) (KeyPure (.int (k x)) { s with heap := h, toks := tk }) (fun _ _ => False) { s with heap := h, toks := tk })
    (h : ∀ (h1 : Heap) out c h' tk, (∀ b o, s.heap.get? b = some o → h1.get? b = some o) → (∀ b o, h1.get? b = some o → h'.get? b = some o) → h'.get? h1.objs.size = some (seqObj "list" (List.toArray out) c) → out.length = n → EachIs (fun v (x : Nat) => ∃ t, v = .int (x : Int) t) out ((List.range n).mergeSort fun a b => decide (k a ≤ k b)) → Q (.ref h1.objs.size) { s with heap := h', toks := tk }) :
    wpAny (model prog w) A (call (.builtin "sorted") [.ref r] [(Str.ofString "key", .ref f)]) Q E s := by
  have szl : (2 ^ 24 : Nat) ≤ sizeLine := by decide
  refine call_function_entry_kw kind_sorted plain_sorted entry_sorted (ksk_s1 _ _) ?_
  unfold Builtin.«sorted»
  refine wpAny_bind (m := checkCount "sorted" 1 1 _) (wpAny_pure ?_)
  refine wpAny_bind (collect_range (n := n) hh hr (small_one (by decide) (by decide) (by omega) (by omega)) (by rw [rangeSize_nat]; simp) hn fun h1 tk1 acc hk hi => ?_)
  have la : acc.toList.length = n := by rw [Array.length_toList]; exact hi.1
  refine wpAny_bind (wpAny_newList ?_ (by rw [la]; omega))
  have at1 : (h1.push { cls := .type "list", data := .seq acc.toList.toArray }).get? h1.objs.size = some (seqObj "list" acc.toList.toArray 0) := Heap.get?_push_size _ rfl
  have up : ∀ {g : Heap}, KeepsBut h1.objs.size (h1.push { cls := .type "list", data := .seq acc.toList.toArray }) g → ∀ b o, s.heap.get? b = some o → g.get? b = some o := fun {g} kp b o q =>
    kp b o (Nat.ne_of_lt (Heap.lt_size (hk _ _ q))) (Heap.get?_push_of_some _ (hk _ _ q))
  have hE : EachIs (fun v (x : Nat) => ∃ t, v = .int (x : Int) t) acc.toList (List.range n) := by
    have e := eachRange acc.toList 0 fun j w e => by
      obtain ⟨t, e1⟩ := hi.2 j w (by rw [← e, Array.getElem?_toList])
      exact ⟨t, by rw [e1]; congr 1; omega⟩
    rw [la, ← List.range_eq_range'] at e
    exact e
  refine wpAny_bind (wpAny_holding (wpAny_call_entry_kw slot_list_sort ⟨_, at1, rfl⟩ entry_list_sort ?body (ksk_l1 _ _)))
  case body =>
    show wpAny (model prog w) A.in1.in1 (Builtin.«list.sort» ⟨[.ref h1.objs.size], [(Str.ofString "key", .ref f)]⟩) _ _ _
    rw [ksk_t1]
    refine keyH_tree (kz := (List.range n).map fun x => PyData.int (k x)) at1 (by simp [la]) (by rw [la]; omega) (fun d hd d' hd' => ?_) (.inr fun d hd => ?_) (fun d hd => ?_)
      (keyH_turns hE fun v x hR hx h tk kp => ?_) fun h' tk out c kp hD ko => ⟨_, rfl, wpAny_pure ⟨_, rfl, ?_⟩⟩
    · obtain ⟨x, _, rfl⟩ := List.mem_map.mp hd
      obtain ⟨y, _, rfl⟩ := List.mem_map.mp hd'
      rfl
    · obtain ⟨x, _, rfl⟩ := List.mem_map.mp hd
      exact ⟨by simp, by simp⟩
    · obtain ⟨x, _, rfl⟩ := List.mem_map.mp hd
      show A.units + 1 + 1 + _ < _
      simp [PyData.depth]
      omega
    · obtain ⟨tx, rfl⟩ := hR
      exact turn x tx (List.mem_range.mp hx) h tk (up kp)
    · have e := keyedOut_each (fun x => PyData.int (k x)) ko hE
      rw [dataLe_int] at e
      exact h h1 out c h' tk hk (fun b o q => kp b o (Nat.ne_of_lt (Heap.lt_size q)) (Heap.get?_push_of_some _ q)) hD ((ko.length (by simp [la])).trans la) e
end

/-! ### the rule -/
theorem lamScopeS {X : Cx} (hc : X.env.scope.names.lookup (PySem.Str.ofString "told") = some .cell) (ok : X.Ok) : ∀ y ∈ lamScope.names, y.2 = .free → ∃ c, X.env.cells.lookup y.1 = some c := fun y hy e => by
  rcases List.mem_cons.mp hy with rfl | hy
  · cases e
  rcases List.mem_cons.mp hy with rfl | hy
  · exact ok.has _ (.inl hc)
  · cases hy
abbrev lamArgs (q : Pos) : Arguments := { posonlyargs := [], args := [{ arg := PySem.Str.ofString "which", annotation := none, pos := q : PySem.Arg }], vararg := none, kwonlyargs := [], kw_defaults := [], kwarg := none, defaults := [] }
/-- the list told: tuples, each with a number in its place 4 -/
def ToldL (K : PySem.W.Frag) (H : Hp) (xs : List V) (k : Nat → Int) : Prop := ∀ (j : Nat) x, xs[j]? = some x → ∃ t ys, x = .ref t ∧ SqT K H t ys ∧ ys[4]? = some (.int (k j))
/-- the numbers of n things in the order of their keys -/
def ordK (n : Nat) (k : Nat → Int) : List Nat := (List.range n).mergeSort fun a b => decide (k a ≤ k b)
def tSortLam (K : PySem.W.Frag) (T : List (Addr × Str)) (i : Nat) (ta : TE) : TE := fun σ H Q => ta σ H fun x H1 => Tabs T H1 ∧ ∃ (L : Addr) (xs : List V) (k : Nat → Int),
  x = .int (xs.length : Nat) ∧ xs.length ≤ 2 ^ 24 ∧ σ[i]? = some (some (.ref L)) ∧ H1 L = some (.lst xs) ∧ ToldL K H1 xs k ∧
  ∀ (H2 : Hp) (p : Addr), ExtN H1 H2 → Tabs T H2 → H2 p = none → Q (.ref p) (upd H2 p (.lst ((ordK xs.length k).map fun (x : Nat) => V.int (x : Int))))
theorem tsExt {H H' : Hp} (e : ExtN H H') : TS H H' := fun a => ⟨fun _ h => e a _ h (fun _ z => by cases z), fun _ _ h => e a _ h (fun _ z => by cases z)⟩
theorem vals_each : ∀ {out : List Value} {ns : List Nat}, EachIs (fun v (x : Nat) => ∃ t, v = .int (x : Int) t) out ns → Vals (ns.map fun (x : Nat) => V.int (x : Int)) out
  | _, _, .nil => .nil
  | _, _, .cons h t => .cons h (vals_each t)
section
variable {X : Cx} {K : PySem.W.Frag} {e : Expr} {ta : TE}
theorem sortCore {T : List (Addr × Str)} {c P r L : Addr} {i j m : Nat} {lpos q p1 p2 p3 p4 p5 : Pos} {t1 t2 t3 : Tok} {xs : List V} {k : Nat → Int} {pins : List (Addr × Obj)} {s1 : Shared} {σ : L2.St} {H1 : Hp} {Q : VK} (hr : Room m X.A)
    (TB : TabB X.base X.mg c P) (hcode : X.env.code = .ref c) (hmT : (P, X.env.qual ++ "<lambda>") ∈ T) (hu : ∀ p ∈ T, p.1 = P → p.2 = X.env.qual ++ "<lambda>")
    (hi : X.N[i]? = some (PySem.Str.ofString "told")) (hc : X.env.scope.names.lookup (PySem.Str.ofString "told") = some .cell)
    (I1 : Inv X pins σ H1 s1) (hro : IsRange s1.heap r 0 (xs.length : Nat) 1 t1 t2 t3) (nr : H1 r = none) (nl : r ≠ X.env.locals) (nf : r ∉ X.fs) (hT : Tabs T H1) (hz : xs.length ≤ 2 ^ 24) (hσ : σ[i]? = some (some (.ref L))) (hL : H1 L = some (.lst xs)) (hK : ToldL X.K H1 xs k)
    (qq : ∀ (H2 : Hp) (p : Addr), ExtN H1 H2 → Tabs T H2 → H2 p = none → Q (.ref p) (upd H2 p (.lst ((ordK xs.length k).map fun (x : Nat) => V.int (x : Int))))) :
    wpAny (model X.prog X.w) X.A (eval (.Lambda (lamArgs q) (lamBody p1 p2 p3 p4 p5 j) lamScope lpos) X.env) (fun fv s2 => wpAny (model X.prog X.w) X.A (call (.builtin "sorted") [.ref r] [(Str.ofString "key", fv)]) (EP X pins σ Q) X.xe s2) X.xe s1 := by
  have J1 : Inv X ((r, { cls := .type "range", dict := none, data := .fields #[.int 0 t1, .int (xs.length : Nat) t2, .int 1 t3], slots := #[] }) :: pins) σ H1 s1 := I1.pins_of fun p hp => by
    rcases List.mem_cons.mp hp with rfl | hp
    · exact ⟨hro, nr, nl, nf, fun v z => by cases z⟩
    · exact I1.pin p (List.mem_append_right _ hp)
  refine lam_make2 J1 TB hcode hmT hu hT rfl (lamScopeS hc I1.ok) fun f c' pm ctv H2 s2 I2 eN T2 hf hfn hfr hco => ?_
  have hro2 : IsRange s2.heap r 0 (xs.length : Nat) 1 t1 t2 t3 := (I2.pin _ (List.mem_append_right _ (List.mem_cons_self ..))).1
  have hL2 : H2 L = some (.lst xs) := eN _ _ hL fun ps z => by cases z
  obtain ⟨_, its, nn, rv, hLo⟩ := I2.hok L _ hL2
  have hLl : s2.heap.IsList L its.toArray := ⟨_, hLo, rfl, nn, rfl⟩
  have hhas := lamScopeS hc I1.ok
  -- the cell
  obtain ⟨cc, hcc, hcell⟩ : ∃ cc, (cloFrom X.env.cells lamScope.names []).lookup (PySem.Str.ofString "told") = some cc ∧ s2.heap.IsCell cc (some (.ref L)) := by
    obtain ⟨mm, hn, hl⟩ := I2.loc
    obtain ⟨u, ru, lu⟩ := hl i _ _ hi hσ (.inr (.inl hc))
    obtain rfl : u = .ref L := ru
    rcases lu with ⟨z, _⟩ | ⟨_, cc, h1, h2⟩
    · have z' : X.env.scope.names.lookup (PySem.Str.ofString "told") = some .local := z
      rw [hc] at z'
      cases z'
    · exact ⟨cc, NdefX.clo_has hhas (List.mem_cons_of_mem _ (List.mem_cons_self ..)) h1, h2⟩
  refine sorted_rng k hr.hd hro2 hz (by have := hr.un; omega) (fun x tx hx h tk kp => ?_) fun h1 out cx h' tk k1 k2 hD lo ho => ?_
  · obtain ⟨v, ev⟩ : ∃ v, xs[x]? = some v := ⟨_, List.getElem?_eq_getElem hx⟩
    obtain ⟨t, ys, rfl, hys, h4⟩ := hK x v ev
    obtain ⟨u, eu, ru⟩ := rv.get ev
    obtain rfl : u = .ref t := ru
    obtain ⟨us, rys, hus, _⟩ := I2.tuple (tsTup (tsExt eN) hys)
    obtain ⟨u4, e4, r4⟩ := rys.get h4
    obtain ⟨t4, rfl⟩ := r4
    have k2l : h.IsList L its.toArray := by
      obtain ⟨o, e, r⟩ := hLl
      exact ⟨o, kp _ _ e, r⟩
    have k2t : IsTup h t us.toArray := by
      obtain ⟨o, e, r⟩ := hus
      exact ⟨o, kp _ _ e, r⟩
    have k2c : h.IsCell cc (some (.ref L)) := by
      obtain ⟨o, e, r⟩ := hcell
      exact ⟨o, kp _ _ e, r⟩
    obtain ⟨c0, oc, vs, tq, z0, z1, z2, z3⟩ := NdefX.codeO_at I2.hok hco
    refine lamTurn (s := { s2 with heap := h, toks := tk }) (c' := c') (show X.A.depth < _ from hr.depth) (I2.nolimit.keeps kp) (kp _ _ hf) ⟨c0, oc, vs, tq, z0, kp _ _ z1, z2, z3⟩ rfl hcc k2c k2l eu k2t e4 (by omega)
  · have I3 : Inv X _ σ H2 { s2 with heap := h1, toks := tk } := I2.kept k1
    have hlen : ((ordK xs.length k).map fun (x : Nat) => V.int (x : Int)).length ≤ sizeLine := by
      rw [List.length_map, ordK, List.length_mergeSort, List.length_range]
      have : (2 ^ 24 : Nat) ≤ sizeLine := by decide
      omega
    have I4 : Inv X _ σ (upd H2 h1.objs.size (.lst _)) { s2 with heap := h', toks := tk } := I3.laid (a := h1.objs.size) k2 (Nat.le_refl _) (show ObjOk X.prog X.w _ _ _ (.lst _) from ⟨hlen, out, cx, vals_each ho, hD⟩)
    exact ⟨.ref _, _, I4.pins_of fun p hp => I4.pin p (List.mem_append_right _ (List.mem_cons_of_mem _ hp)), rfl, qq H2 _ eN T2 (I3.hok.fresh (Nat.le_refl _))⟩
theorem pe_sortLam {T : List (Addr × Str)} {c P : Addr} {i j m : Nat} {p pr pos rpos kpos lpos q p1 p2 p3 p4 p5 : Pos} (hK : X.K = K) (hr : Room m X.A) (hg : Gl X "sorted") (hm : X.mg "sorted" = none) (hgr : Gl X "range") (hmr : X.mg "range" = none) (ha : PE X e ta)
    (TB : TabB X.base X.mg c P) (hcode : X.env.code = .ref c) (hmT : (P, X.env.qual ++ "<lambda>") ∈ T) (hu : ∀ p ∈ T, p.1 = P → p.2 = X.env.qual ++ "<lambda>")
    (hi : X.N[i]? = some (PySem.Str.ofString "told")) (hc : X.env.scope.names.lookup (PySem.Str.ofString "told") = some .cell) (n1 : starEach [e] X.env = (false, eval e X.env) :: starEach [] X.env := by rfl)
    (na : starEach [.Call (.Name "range" pr) [e] [] rpos] X.env = (false, eval (.Call (.Name "range" pr) [e] [] rpos) X.env) :: starEach [] X.env := by rfl)
    (nb : backTo pos (starEach [.Call (.Name "range" pr) [e] [] rpos] X.env) = (false, eval (.Call (.Name "range" pr) [e] [] rpos) X.env) :: backTo pos (starEach [] X.env) := by rfl) (nc : (backTo pos (starEach [.Call (.Name "range" pr) [e] [] rpos] X.env)).any (·.1) = false := by rfl) :
    PE X (.Call (.Name "sorted" p) [.Call (.Name "range" pr) [e] [] rpos] [⟨some "key", .Lambda (lamArgs q) (lamBody p1 p2 p3 p4 p5 j) lamScope lpos, kpos⟩] pos) (tSortLam K T i ta) := by
  subst hK
  refine ⟨fun pins s σ H Q I h => ?_⟩
  refine wpAny_Call_Name_kw (ld_blt I hg hm (u := .builtin "sorted") (by decide +kernel) ?_)
  refine PyProof.Rows.callWith_kw (args_cons (Call_ (ld_blt I hgr hmr boot_range (PyProof.Rows.callWith_type1 (one_arg ha I h (fun v s0 x H1 I1 rx qx => ?_) n1) n1))) na) nb nc (by rfl) (by rfl)
  obtain ⟨hT, L, xs, k, rfl, hz, hσ, hL, hK, qq⟩ := qx
  obtain ⟨t, rfl⟩ := rx
  refine call_range_1 (args_nil ?_)
  refine wpAny_evalAll_cons (wpAny_bind (thn (sortCore hr TB hcode hmT hu hi hc (I1.kept fun b u e => Heap.get?_push_of_some _ e) (IsRange.new _ _ _ _ _ _ _) (I1.hok.fresh (Nat.le_refl _)) (Nat.ne_of_gt I1.lt) (I1.nofs (Nat.le_refl _)) hT hz hσ hL hK qq) fun fv s2 h2 => wpAny_bind (wpAny_standAt (wpAny_pure (wpAny_evalAll_nil ?_)))))
  exact h2
end
end LW

/-! verdicts, in plain lists; the order of tasks by their rows -/
namespace LW
open PySem PySem.Spec PyProof.Rows L2
/-- the stretch of all fillings that are within -/
def wi (tops : List Int) : List Iv := tops.map fun t => (0, t)
theorem wi_len (tops : List Int) : (wi tops).length = tops.length := List.length_map _
theorem ordK_perm (n : Nat) (k : Nat → Int) : (ordK n k).Perm (List.range n) := List.mergeSort_perm _ _
theorem ordK_len (n : Nat) (k : Nat → Int) : (ordK n k).length = n := by rw [(ordK_perm n k).length_eq, List.length_range]
theorem ordK_mem {n : Nat} {k : Nat → Int} {m : Nat} : m ∈ ordK n k ↔ m < n := by rw [(ordK_perm n k).mem_iff, List.mem_range]
theorem ordK_nodup (n : Nat) (k : Nat → Int) : (ordK n k).Nodup := (ordK_perm n k).nodup_iff.mpr List.nodup_range
theorem ordK_sorted (n : Nat) (k : Nat → Int) : (ordK n k).Pairwise fun a b => k a ≤ k b := by
  have h := List.pairwise_mergeSort (le := fun a b => decide (k a ≤ k b)) (fun a b c h1 h2 => by
    have h1 := of_decide_eq_true h1
    have h2 := of_decide_eq_true h2
    exact decide_eq_true (by omega)) (fun a b => by
    by_cases h : k a ≤ k b
    · simp [h]
    · have : k b ≤ k a := by omega
      simp [this]) (List.range n)
  exact h.imp fun h => of_decide_eq_true h
theorem ordK_stable {n a b : Nat} {k : Nat → Int} (h : k a ≤ k b) (hab : a < b) (hb : b < n) : [a, b].Sublist (ordK n k) := by
  refine List.pair_sublist_mergeSort (le := fun a b => decide (k a ≤ k b)) (fun a b c h1 h2 => ?_) (fun a b => ?_) (decide_eq_true h) ?_
  · have h1 := of_decide_eq_true h1
    have h2 := of_decide_eq_true h2
    exact decide_eq_true (by omega)
  · by_cases h : k a ≤ k b
    · simp [h]
    · have : k b ≤ k a := by omega
      simp [this]
  · have e : List.range n = List.range b ++ b :: (List.range' (b + 1) (n - b - 1)) := by
      have e1 : b :: List.range' (b + 1) (n - b - 1) = List.range' b (n - b) := by
        rw [← List.range'_succ, show n - b - 1 + 1 = n - b by omega]
      rw [e1, List.range_eq_range', List.range_eq_range']
      have e2 := List.range'_append_1 (s := 0) (m := b) (n := n - b)
      rw [Nat.zero_add, show b + (n - b) = n by omega] at e2
      exact e2.symm
    rw [e]
    refine (List.singleton_sublist.mpr (List.mem_range.mpr hab)).append ?_
    exact (List.Sublist.cons_cons b (List.nil_sublist _))
/-- what is ahead of a thing has stood ahead of it -/
theorem ordK_ahead {n i a b : Nat} {k : Nat → Int} (e : (ordK n k)[i]? = some b) (ha : a < n) (h : k a < k b ∨ k a = k b ∧ a < b) : a ∈ (ordK n k).take i := by
  have hb : b < n := ordK_mem.mp (List.mem_of_getElem? e)
  have ma : a ∈ ordK n k := ordK_mem.mpr ha
  obtain ⟨hi, e1⟩ := List.getElem?_eq_some_iff.mp e
  have es : ordK n k = (ordK n k).take i ++ b :: (ordK n k).drop (i + 1) := by rw [← e1, ← List.drop_eq_getElem_cons hi, List.take_append_drop]
  rw [es] at ma
  rcases List.mem_append.mp ma with m | m
  · exact m
  · exfalso
    rcases List.mem_cons.mp m with m | m
    · subst m
      omega
    · have hs := ordK_sorted n k
      rw [es, List.pairwise_append] at hs
      have hle := (List.pairwise_cons.mp hs.2.1).1 a m
      have hnd := ordK_nodup n k
      have hlt : k a = k b ∧ a < b := by omega
      have sub := ordK_stable (n := n) (k := k) (Int.le_of_eq hlt.1) hlt.2 hb
      have sub2 : [b, a].Sublist (ordK n k) := by
        rw [es]
        exact (List.Sublist.cons_cons b (List.singleton_sublist.mpr m)).trans (List.sublist_append_right _ _)
      -- two orders of two things
      have key : ∀ (l : List Nat), l.Nodup → [a, b].Sublist l → [b, a].Sublist l → False := by
        intro l
        induction l with
        | nil => intro _ h _; cases h
        | cons x r ih =>
          intro nd h1 h2
          have nd' := List.nodup_cons.mp nd
          cases h1 with
          | cons _ h1 =>
            cases h2 with
            | cons _ h2 => exact ih nd'.2 h1 h2
            | cons_cons _ h2 => exact nd'.1 (h1.subset (by simp))
          | cons_cons _ h1 =>
            cases h2 with
            | cons _ h2 => exact nd'.1 (h2.subset (by simp))
            | cons_cons _ h2 => omega
      exact key _ hnd sub sub2
theorem chooseAll {α β : Type} {R : α → β → Prop} {P : Nat → β → Prop} : ∀ {ys : List α} {k : Nat}, (∀ (j : Nat) y, ys[j]? = some y → ∃ s, R y s ∧ P (k + j) s) → ∃ ss : List β, A2 R ys ss ∧ ∀ (j : Nat) s, ss[j]? = some s → P (k + j) s
  | [], _, _ => ⟨[], .nil, fun j s h => by simp at h⟩
  | y :: r, k, h => by
    obtain ⟨s, h1, h2⟩ := h 0 y rfl
    obtain ⟨ss, h3, h4⟩ := chooseAll (ys := r) (k := k + 1) fun j z hz => by
      obtain ⟨s, a, b⟩ := h (j + 1) z (by simpa using hz)
      exact ⟨s, a, by rw [show k + 1 + j = k + (j + 1) by omega]; exact b⟩
    refine ⟨s :: ss, .cons h1 h3, fun j z hz => ?_⟩
    cases j with
    | zero =>
      simp at hz
      subst hz
      exact h2
    | succ j =>
      have := h4 j z (by simpa using hz)
      rw [show k + 1 + j = k + (j + 1) by omega] at this
      exact this
/-- a verdict -/
inductive Vd where
  | kept (ts : List Tr) | broken (n : Int) (fs : List Int)
end LW

/-! a dict whose keys are a place and what is held there: tuples of two tuples of numbers -/
namespace LW
open PySem PySem.Spec PyProof.Rows L2
abbrev SKey := List Nat × List Int
def keyN (k : SKey) : NestedKey := .tup [.tup (k.1.map fun n : Nat => NestedKey.num (n : Int)), .tup (k.2.map NestedKey.num)]
theorem mapNum_inj : ∀ {a b : List Int}, a.map NestedKey.num = b.map NestedKey.num → a = b
  | [], [], _ => rfl
  | [], _ :: _, e => by simp at e
  | _ :: _, [], e => by simp at e
  | x :: r, y :: t, e => by
    simp only [List.map_cons, List.cons.injEq, NestedKey.num.injEq] at e
    rw [e.1, mapNum_inj e.2]
theorem mapNat_inj : ∀ {a b : List Nat}, (a.map fun n : Nat => NestedKey.num (n : Int)) = (b.map fun n : Nat => NestedKey.num (n : Int)) → a = b
  | [], [], _ => rfl
  | [], _ :: _, e => by simp at e
  | _ :: _, [], e => by simp at e
  | x :: r, y :: t, e => by
    simp only [List.map_cons, List.cons.injEq, NestedKey.num.injEq] at e
    have h := e.1
    rw [mapNat_inj e.2]
    congr 1
    omega
theorem keyN_inj {a b : SKey} (e : keyN a = keyN b) : a = b := by
  obtain ⟨a1, a2⟩ := a
  obtain ⟨b1, b2⟩ := b
  simp only [keyN, NestedKey.tup.injEq, List.cons.injEq, and_true] at e
  rw [mapNat_inj e.1, mapNum_inj e.2]
theorem depthNums : ∀ l : List Int, NestedKey.depthAll (l.map NestedKey.num) = 0
  | [] => rfl
  | _ :: r => by simp only [List.map_cons, NestedKey.depthAll, NestedKey.depth, depthNums r]; rfl
theorem depthNats (l : List Nat) : NestedKey.depthAll (l.map fun n : Nat => NestedKey.num (n : Int)) = 0 := by
  have := depthNums (l.map fun n : Nat => (n : Int))
  rw [List.map_map] at this
  exact this
def KeyIn (K : PySem.W.Frag) (H : Hp) (b : Addr) (k : SKey) : Prop := ∃ u v, SqT K H b [.ref u, .ref v] ∧ SqT K H u (nats k.1) ∧ SqT K H v (k.2.map V.int)
theorem KeyIn.ts {K : PySem.W.Frag} {H H' : Hp} {b : Addr} {k : SKey} (e : TS H H') (h : KeyIn K H b k) : KeyIn K H' b k := by
  obtain ⟨u, v, h1, h2, h3⟩ := h
  exact ⟨u, v, tsTup e h1, tsTup e h2, tsTup e h3⟩
theorem numsAll {h : Heap} : ∀ {l : List Int} {its : List Value}, Vals (l.map V.int) its → NestedAll h (l.map NestedKey.num) its
  | [], _, .nil => .nil
  | x :: r, _, .cons ⟨t, e⟩ q => by
    subst e
    exact .cons (.int x t) (numsAll q)
theorem natsAll {h : Heap} {l : List Nat} {its : List Value} (q : Vals (nats l) its) : NestedAll h (l.map fun n : Nat => NestedKey.num (n : Int)) its := by
  have := numsAll (h := h) (l := l.map fun n : Nat => (n : Int)) (its := its) (by rw [List.map_map]; exact q)
  rw [List.map_map] at this
  exact this
section
variable {X : Cx} {pins : List (Addr × Obj)} {σ : L2.St} {H : Hp} {s : Shared} {a b : Addr} {k : SKey}
theorem tupIs {ks : List NestedKey} {its : List Value} {a : Addr} (p : IsTup s.heap a its.toArray) (h : NestedAll s.heap ks its) : NestedIs s.heap (.tup ks) (.ref a) := by
  obtain ⟨o, h1, h2, n, h3⟩ := p
  exact .tup h1 h2 h3 (by simpa using h)
theorem KeyIn.is (I : Inv X pins σ H s) (h : KeyIn X.K H b k) : (nestedKind X.prog X.w).is s.heap (keyN k) b := by
  obtain ⟨u, v, h1, h2, h3⟩ := h
  obtain ⟨i1, r1, p1, _⟩ := I.tuple h1
  obtain ⟨i2, r2, p2, _⟩ := I.tuple h2
  obtain ⟨i3, r3, p3, _⟩ := I.tuple h3
  refine ⟨tupIs p1 ?_, ?_⟩
  · cases r1 with
    | cons e1 r1 =>
    cases r1 with
    | cons e2 r1 =>
    cases r1
    cases (show _ = Value.ref u from e1)
    cases (show _ = Value.ref v from e2)
    exact .cons (tupIs p2 (natsAll r2)) (.cons (tupIs p3 (numsAll r3)) .nil)
  · simp only [keyN, NestedKey.depth, NestedKey.depthAll, depthNums, depthNats]
    decide
/-- the dict's own object -/
def NdO (P : Program) (w : World) (a : Addr) (xs : List (NestedKey × Addr × Value)) : HO := .ext fun h => (a == sysModules) = false ∧ ∃ o es ep, h.get? a = some o ∧ o.ExactDict ∧ o.data = .dict es ep ∧ es.toList = xs.map (entryOfKey (nestedKind P w)) ∧ (xs.map (·.1)).Nodup
theorem ndOk {P : Program} {w : World} {H : Hp} {h : Heap} {xs : List (NestedKey × Addr × Value)} (hd : (a == sysModules) = false) {o : Obj} {es : Array DictEntry} {ep : Nat} (h1 : h.get? a = some o) (h2 : o.ExactDict) (h3 : o.data = .dict es ep) (h4 : es.toList = xs.map (entryOfKey (nestedKind P w))) (h5 : (xs.map (·.1)).Nodup) : ObjOk P w H h a (NdO P w a xs) :=
  ⟨⟨hd, o, es, ep, h1, h2, h3, h4, h5⟩, ⟨o, h1⟩, fun _ _ ⟨c, o', es', ep', c1, c2⟩ e => ⟨c, o', es', ep', e _ c1, c2⟩⟩
def Ent (K : PySem.W.Frag) (H : Hp) (q : NestedKey × Addr × Value) (p : SKey × Int) : Prop := q.1 = keyN p.1 ∧ KeyIn K H q.2.1 p.1 ∧ ∃ t, q.2.2 = Value.int p.2 t
def SeenIn (P : Program) (w : World) (K : PySem.W.Frag) (H : Hp) (a : Addr) (kvs : List (SKey × Int)) : Prop := kvs.length ≤ sizeLine ∧ ∃ xs, H a = some (NdO P w a xs) ∧ A2 (Ent K H) xs kvs
theorem SeenIn.same {P : Program} {w : World} {K : PySem.W.Frag} {H H' : Hp} {a : Addr} {kvs : List (SKey × Int)} (e : Same H H') (h : SeenIn P w K H a kvs) : SeenIn P w K H' a kvs := by
  obtain ⟨hl, xs, h1, h2⟩ := h
  exact ⟨hl, xs, e _ _ h1, A2.map (B' := kvs) (fun _ _ _ r => ⟨r.1, r.2.1.ts (tsOf e), r.2.2⟩) (fun _ m => m) h2⟩
/-- a list is changed -/
theorem SeenIn.mut {P : Program} {w : World} {K : PySem.W.Frag} {H : Hp} {a L : Addr} {kvs : List (SKey × Int)} {ys zs : List V} (hL : H L = some (.lst ys)) (h : SeenIn P w K H a kvs) : SeenIn P w K (upd H L (.lst zs)) a kvs := by
  obtain ⟨hl, xs, h1, h2⟩ := h
  refine ⟨hl, xs, by rw [upd_ne (ne_of h1 hL (fun c => by cases c))]; exact h1, A2.map (B' := kvs) (fun _ _ _ r => ⟨r.1, r.2.1.ts (tsLst hL), r.2.2⟩) (fun _ m => m) h2⟩
def lookK (kvs : List (SKey × Int)) (k : SKey) : Option Int := (kvs.find? fun p => decide (p.1 = k)).map (·.2)
theorem lookRel {K : PySem.W.Frag} {H : Hp} {k : SKey} : ∀ {xs : List (NestedKey × Addr × Value)} {kvs : List (SKey × Int)}, A2 (Ent K H) xs kvs → (atKey xs (keyN k)).isSome = (lookK kvs k).isSome ∧ ∀ m, lookK kvs k = some m → ∃ b t, atKey xs (keyN k) = some (b, Value.int m t)
  | _, _, .nil => ⟨rfl, fun m e => by cases e⟩
  | q :: xs, p :: kvs, .cons h r => by
    obtain ⟨ih1, ih2⟩ := lookRel (k := k) r
    obtain ⟨h1, _, t, h3⟩ := h
    by_cases e : p.1 = k
    · have e2 : q.1 = keyN k := by rw [h1, e]
      refine ⟨by simp [atKey, lookK, e, e2], fun m hm => ⟨q.2.1, t, ?_⟩⟩
      have : p.2 = m := by simpa [lookK, e] using hm
      simp only [atKey, List.find?_cons, decide_eq_true e2, Option.map_some]
      rw [← this, ← h3]
    · have e2 : ¬ q.1 = keyN k := fun z => e (keyN_inj (by rw [← h1, z]))
      have a1 : atKey (q :: xs) (keyN k) = atKey xs (keyN k) := by simp only [atKey, List.find?_cons, decide_eq_false e2]
      have a2 : lookK (p :: kvs) k = lookK kvs k := by simp only [lookK, List.find?_cons, decide_eq_false e]
      rw [a1, a2]
      exact ⟨ih1, ih2⟩
theorem SeenIn.dict {kvs : List (SKey × Int)} (I : Inv X pins σ H s) (h : SeenIn X.prog X.w X.K H a kvs) : (a == sysModules) = false ∧ ∃ xs, s.heap.DictOfH (nestedKind X.prog X.w) a xs ∧ A2 (Ent X.K H) xs kvs ∧ H a = some (NdO X.prog X.w a xs) := by
  obtain ⟨hl, xs, h1, h2⟩ := h
  obtain ⟨⟨hd, o, es, ep, g1, g2, g3, g4, g5⟩, _⟩ := (show ObjOk X.prog X.w H s.heap a (NdO X.prog X.w a xs) from I.hok a _ h1)
  refine ⟨hd, xs, ⟨o, es, ep, g1, g2, g3, g4, fun x hx => ?_, g5⟩, h2, h1⟩
  have all : ∀ {xs : List (NestedKey × Addr × Value)} {kvs : List (SKey × Int)}, A2 (Ent X.K H) xs kvs → ∀ x ∈ xs, (nestedKind X.prog X.w).is s.heap x.1 x.2.1 := by
    intro xs kvs r
    induction r with
    | nil => intro x hx; cases hx
    | cons h r ih =>
      intro x hx
      rcases List.mem_cons.mp hx with e | hx
      · subst e
        rw [h.1]
        exact h.2.1.is I
      · exact ih x hx
  exact all h2 x hx
theorem roomN {A : Around} (hu : A.units + 64 < cLine) {P : Program} {w : World} : (nestedKind P w).room A.in1 := by show A.units + 1 + 8 < cLine; omega
def rInN (P : Program) (w : World) (K : PySem.W.Frag) : R2 := fun x y H Q => ∃ (b a : Addr) (k : SKey) (kvs : List (SKey × Int)), x = .ref b ∧ y = .ref a ∧ KeyIn K H b k ∧ SeenIn P w K H a kvs ∧ Q (.bl (lookK kvs k).isSome) H
theorem op_inN (hu : X.A.units + 64 < cLine) : OpR X (compareOp .In) (rInN X.prog X.w X.K) := by
  intro pins s σ H x y v u Q I rx ry h
  obtain ⟨b, a, k, kvs, rfl, rfl, hk, hs, q⟩ := h
  cases rx
  cases ry
  obtain ⟨hd, xs, dd, rel, _⟩ := SeenIn.dict I hs
  refine wpAny_in_heap (roomN hu) (hk.is I) hd dd ?_
  rw [(lookRel rel).1]
  exact ⟨.bl _, H, I.tok _, rfl, q⟩
def rIxN (P : Program) (w : World) (K : PySem.W.Frag) : R2 := fun x y H Q => ∃ (a b : Addr) (k : SKey) (kvs : List (SKey × Int)) (m : Int), x = .ref a ∧ y = .ref b ∧ KeyIn K H b k ∧ SeenIn P w K H a kvs ∧ lookK kvs k = some m ∧ Q (.int m) H
theorem ix_n (hu : X.A.units + 64 < cLine) : IxR X (rIxN X.prog X.w X.K) := by
  intro value slice pins s σ H x y v u Q I rx ry h hs0
  obtain ⟨a, b, k, kvs, m, rfl, rfl, hk, hs, hm, q⟩ := h
  cases rx
  cases ry
  obtain ⟨hd, xs, dd, rel, _⟩ := SeenIn.dict I hs
  obtain ⟨c, t, hc⟩ := (lookRel rel).2 m hm
  exact subscriptTail_builtinR (x := Value.int m t) dd.typeIs PySem.F.slot_dict_getitem.lookup
    (wpAny_getItem_heap (Q := fun r s' => r = Value.int m t ∧ EP X pins σ Q r s') (roomN hu) (hk.is I) dd hc ⟨rfl, .int m, H, I.tok _, ⟨t, rfl⟩, q⟩) hs0
def rSetN (P : Program) (w : World) (K : PySem.W.Frag) : TSet := fun o i v H Q => ∃ (a b : Addr) (k : SKey) (kvs : List (SKey × Int)) (m : Int), o = .ref a ∧ i = .ref b ∧ v = .int m ∧ KeyIn K H b k ∧ SeenIn P w K H a kvs ∧ lookK kvs k = none ∧ kvs.length < sizeLine ∧
  ∀ H', But a H H' → TS H H' → SeenIn P w K H' a (kvs ++ [(k, m)]) → Q H'
theorem set_n (hu : X.A.units + 64 < cLine) : PSet X (rSetN X.prog X.w X.K) := by
  intro pins s σ H o i v ov iv u Q I ro ri rv h
  obtain ⟨a, b, k, kvs, m, rfl, rfl, rfl, hk, hs, hm, hl, q⟩ := h
  cases ro
  cases ri
  obtain ⟨t, rfl⟩ := rv
  obtain ⟨hd, xs, dd, rel, hH⟩ := SeenIn.dict I hs
  have lx := rel.len
  have hn : atKey xs (keyN k) = none := by
    have := (lookRel (k := k) rel).1
    rw [hm] at this
    exact Option.isSome_eq_false_iff.mp this |> Option.isNone_iff_eq_none.mp
  refine wpAny_setItem_heap (hsz := by omega) (roomN hu) (hk.is I) dd fun h' dd' hs' => ?_
  rw [storedH_new hn] at dd'
  obtain ⟨q0, es, ep, hq, h2, h3, h4, _, h5⟩ := dd'
  have ne : ∀ (c : Addr) (ob : HO), H c = some ob → (∀ φ, ob ≠ .ext φ) → c ≠ a := fun c ob e n z => by
    rw [z, hH] at e
    exact n _ (Option.some.inj e).symm
  have ts : TS H (upd H a (NdO X.prog X.w a (xs ++ [(keyN k, b, Value.int m t)]))) := fun c => ⟨fun ys e => by rw [upd_ne (ne c _ e (fun _ z => by cases z))]; exact e, fun o u e => by rw [upd_ne (ne c _ e (fun _ z => by cases z))]; exact e⟩
  refine ⟨_, d_write I (by rw [hH]; exact True.intro) hs' ⟨q0, hq⟩ (ndOk hd hq h2 h3 h4 h5), q _ (fun c ob n e => by rw [upd_ne n]; exact e) ts ?_⟩
  refine ⟨by rw [List.length_append, List.length_singleton]; omega, _, upd_same, ?_⟩
  refine (A2.map (B' := kvs) (fun _ _ _ r => ⟨r.1, r.2.1.ts ts, r.2.2⟩) (fun _ m => m) rel).app (.cons ⟨rfl, hk.ts ts, t, rfl⟩ .nil)
def tDNewN (P : Program) (w : World) : TE := fun _ H Q => ∀ p, H p = none → Q (.ref p) (upd H p (NdO P w p []))
theorem pe_dnewN {pos : Pos} : PE X (.Dict [] [] pos) (tDNewN X.prog X.w) := ⟨fun pins s σ H Q I h =>
  wpAny_Dict_empty ⟨.ref s.heap.objs.size, _, I.laid (a := s.heap.objs.size) (o := NdO X.prog X.w s.heap.objs.size []) (t' := s.toks) (fun _ _ q => Heap.get?_push_of_some _ q) (Nat.le_refl _)
    (ndOk (beq_eq_false_iff_ne.mpr (Ne.symm (Nat.ne_of_lt I.big))) (es := #[]) (ep := 0) (Heap.get?_push_size _ rfl) ⟨rfl, rfl, rfl⟩ rfl rfl List.nodup_nil), rfl, h _ (I.hok.fresh (Nat.le_refl _))⟩⟩
theorem seenNew {P : Program} {w : World} {K : PySem.W.Frag} {H : Hp} {p : Addr} : SeenIn P w K (upd H p (NdO P w p [])) p [] := ⟨Nat.zero_le _, [], upd_same, .nil⟩
end
section
variable {X : Cx} {P : Program} {w : World} {K : PySem.W.Frag}
theorem kInN (h1 : X.prog = P) (h2 : X.w = w) (h : X.K = K) (hu : X.A.units + 64 < cLine) : OpR X (compareOp .In) (rInN P w K) := by subst h1 h2 h; exact op_inN hu
theorem kIxN (h1 : X.prog = P) (h2 : X.w = w) (h : X.K = K) (hu : X.A.units + 64 < cLine) : IxR X (rIxN P w K) := by subst h1 h2 h; exact ix_n hu
theorem kSetN (h1 : X.prog = P) (h2 : X.w = w) (h : X.K = K) (hu : X.A.units + 64 < cLine) : PSet X (rSetN P w K) := by subst h1 h2 h; exact set_n hu
theorem kDNewN {pos : Pos} (h1 : X.prog = P) (h2 : X.w = w) : PE X (.Dict [] [] pos) (tDNewN P w) := by subst h1 h2; exact pe_dnewN
end
end LW

/-! a text times a truth -/
namespace LW
open PySem PySem.Spec PyProof.Rows L2
theorem mulS1 (x : Str) : Txt.mul x 1 = x := by unfold Txt.mul; rw [if_neg (by decide), if_pos (by rfl)]
theorem mulS0 (x : Str) : Txt.mul x 0 = ("" : Str) := by unfold Txt.mul; rw [if_pos (by decide)]; rfl
def rMulS : R2 := fun x y H Q => ∃ (s : Str) (k : Bool), x = .str s ∧ y = .int (if k then 1 else 0) ∧ Q (.str (if k then s else "")) H
theorem op_mulS {X : Cx} : OpR X (binaryOp .Mult) rMulS := by
  intro pins s σ H x y v u Q I rx ry h
  obtain ⟨z, k, rfl, rfl, q⟩ := h
  obtain ⟨t, rfl⟩ := rx
  obtain ⟨t2, rfl⟩ := ry
  cases k with
  | true =>
    refine SB.mul ⟨by decide, fun _ e => absurd e (by simp), fun _ e => absurd e (by simp)⟩ fun t' j => ⟨.str z, H, I.tok _, ⟨t', ?_⟩, q⟩
    rw [show (if true = true then (1 : Int) else 0) = 1 from rfl, mulS1]
  | false =>
    refine SB.mul ⟨by decide, fun e _ => absurd (show (0 : Int) < 1 by decide) e, fun e _ => absurd (show (0 : Int) < 1 by decide) e⟩ fun t' j => ⟨.str "", H, I.tok _, ⟨t', ?_⟩, q⟩
    rw [show (if false = true then (1 : Int) else 0) = 0 from rfl, mulS0]
end LW

namespace LW
open PySem PySem.Spec PyProof.Rows L2
def topS (i : Nat) : Stmt := PySem.Challenge.pw_loopwords_k03_runs.main.body.getD i (.Pass ⟨0, 0, 0, 0⟩)

local macro_rules | `(tactic| walk_at "go1") => `(tactic| first
  | refine ⟨_, rfl, ?_⟩
  | refine ⟨_, _, rfl, rfl, ?_⟩
  | refine ⟨show (0 : Int) < _ from by omega, ?_⟩
  | refine ⟨show CMul _ _ from by first | exact .inl ⟨by omega, by omega⟩ | exact .inr ⟨by omega, by omega⟩, ?_⟩
  | refine ⟨show CDiv _ _ from ⟨by omega, by omega⟩, ?_⟩)
local macro_rules | `(tactic| walk_at "go") => `(tactic| repeat walk_at "go1")

section
variable {P : Program} {w : World} {K : PySem.W.Frag} {mg : Str → Option Value} {base : Heap}

/-! ### calls that may raise -/
structure CalX (P : Program) (w : World) (K : PySem.W.Frag) (mg : Str → Option Value) (base : Heap) (k : Nat) (x : Str) (sp : Sp) : Prop where
  ex : ∃ (f : Addr) (fd : FuncData) (ps : List Str), FnOk P w K mg base (L2.CX P w) k f fd ps sp ∧ mg x = some (.ref f) ∧ PySem.W.keepIn K (.ref f) = true ∧ Binds K fd ps []
theorem cX {X : Cx} {k j : Nat} {x : Str} {sp : Sp} {E : XK} {p pos : Pos} {e : Expr} {es : List Expr} {t : TA} (c : CalX X.prog X.w X.K X.mg X.base k x sp) (hr : Room j X.A) (hk : k ≤ j) (hg : Gl X x) (hx : Passes (L2.CX X.prog X.w) X E) (ha : PA X (e :: es) t)
    (hdb : (x == ("__debug__" : Str)) = false := by decide) (he : starEach (e :: es) X.env = (false, eval e X.env) :: starEach es X.env := by rfl) (hpl : (backTo pos (starEach es X.env)).any (·.1) = false := by rfl) :
    PE X (.Call (.Name x p) (e :: es) [] pos) (tCall sp [] E t) := by
  obtain ⟨f, fd, ps, F, hm, kp, b⟩ := c.ex
  exact pe_call F (hr.mono hk) hg hm kp b .nil hx ha hdb he hpl
/-- an own exception class over ValueError -/
structure ExF (K : PySem.W.Frag) (mg : Str → Option Value) (x : Str) (C : Addr) : Prop where
  xP : PySem.W.excIn K C [.type "ValueError", .type "Exception", .type "BaseException", .type "object"] "ValueError.__new__" = true
  gP : mg x = some (.ref C)
  kP : PySem.W.keepIn K (.ref C) = true
  bP : PySem.W.subIn K (.ref C) (.type "BaseException") = some true
  tP : PySem.W.typeIn K (.ref C) = some (.type "type")
/-- the module's numbers -/
structure Cs (mg : Str → Option Value) : Prop where
  MOST_BOXES : ∃ u, mg "MOST_BOXES" = some u ∧ RelV (.int 3) u
  HIGHEST_TOP : ∃ u, mg "HIGHEST_TOP" = some u ∧ RelV (.int 9) u
  MOST_ROWS : ∃ u, mg "MOST_ROWS" = some u ∧ RelV (.int 12) u
  MOST_WITHIN : ∃ u, mg "MOST_WITHIN" = some u ∧ RelV (.int 3) u
  MOST_KEPT : ∃ u, mg "MOST_KEPT" = some u ∧ RelV (.int 3) u
  HIGHEST_NUMBER : ∃ u, mg "HIGHEST_NUMBER" = some u ∧ RelV (.int 9) u
  HIGHEST_LAST : ∃ u, mg "HIGHEST_LAST" = some u ∧ RelV (.int 99) u

abbrev s__is_from_to : Stmt := topS 24
theorem sc__is_from_to : FnScope ["number", "least", "most"] ["number", "least", "most"] (defScope s__is_from_to) := ⟨rfl, rfl, rfl, by decide +kernel, rfl, by decide +kernel, by decide +kernel⟩

def spFT (K : PySem.W.Frag) : Sp := fun vs H Q _ => ∃ (v : V) (d : D) (lo hi : Int), vs = [v, .int lo, .int hi] ∧ Din K H v d ∧ Q (.bl (fromTo d lo hi)) H
theorem ok__is_from_to {f : Addr} {fd : FuncData} {k : Nat} (F : Fun K "_is_from_to" "_is_from_to" s__is_from_to f fd) (B : Bl mg) : FnOk P w K mg base CX0 (k + 1) f fd ["number", "least", "most"] (spFT K) := by
  refine F.ok sc__is_from_to (fun vs H Q E h => ?_) (fun cdv A outer s H vs Q E hr h => ?_)
  · obtain ⟨v, d, lo, hi, rfl, _⟩ := h
    rfl
  obtain ⟨v, d, lo, hi, rfl, hd, q⟩ := h
  refine ⟨_, (pss_one (ps_ret (pe_and (pe_cmpR kEqTy (pe_callTy (kType (K := K) rfl) (by rfl) B.type (by decide +kernel) (pa_cons (pv 0) pa_nil)) (pe_bltn (v := .ty "int") (by rfl) B.int (by decide +kernel) rfl) (nomark _)) (pe_one (pe_chain op_le op_le (pv 1) (pv 0) (pv 2)))))), ?_⟩
  refine ⟨_, rfl, _, _, rfl, dinTy hd, _, _, rfl, rfl, (dinTy hd).known, .int, _, rfl, ?_⟩
  rw [decInt]
  cases hd with
  | int i =>
    refine iteT ?_
    refine ⟨_, rfl, _, rfl, _, _, rfl, rfl, _, rfl, ?_⟩
    have q' : Q (.bl (decide (lo ≤ i) && decide (i ≤ hi))) H := q
    refine ifB (fun c => ?_) (fun c => ?_)
    · refine ⟨_, rfl, _, _, rfl, rfl, ?_⟩
      rw [c, Bool.true_and] at q'
      exact q'
    · rw [c, Bool.false_and] at q'
      exact q'
  | _ => exact iteF q
abbrev s__is_sum : Stmt := topS 23
theorem sc__is_sum : FnScope ["one", "many", "numbers", "last", "number"] ["one", "many"] (defScope s__is_sum) := ⟨rfl, rfl, rfl, by decide +kernel, rfl, by decide +kernel, by decide +kernel⟩

def spIsS (K : PySem.W.Frag) : Sp := fun vs H Q _ => ∃ (v : V) (d : D) (many : Nat), vs = [v, .int (many : Int)] ∧ Din K H v d ∧ many ≤ 1000 ∧ ∀ H', Same H H' → Q (.bl (sumOk many d)) H'
theorem ok__is_sum {f : Addr} {fd : FuncData} {k : Nat} (F : Fun K "_is_sum" "_is_sum" s__is_sum f fd) (B : Bl mg) (T : Cs mg) (c__is_from_to : C8.Cal P w K mg base k "_is_from_to" (spFT K) []) : FnOk P w K mg base CX0 (k + 1) f fd ["one", "many"] (spIsS K) := by
  refine F.ok sc__is_sum (fun vs H Q E h => ?_) (fun cdv A outer s H vs Q E hr h => ?_)
  · obtain ⟨v, d, many, rfl, _⟩ := h
    rfl
  obtain ⟨v, d, many, rfl, hd, hm, q⟩ := h
  refine ⟨_, (pss_cons (ps_if (PW.pt (pw_or (pt_cmpR kNeTy (pe_callTy (kType (K := K) rfl) (by rfl) B.type (by decide +kernel) (pa_cons (pv 0) pa_nil)) (pe_bltn (v := .ty "tuple") (by rfl) B.tuple (by decide +kernel) rfl) (nomark _)) (pw_or1 (pt_cmpR op_ne (pe_callB (kLen (K := K) rfl) (by rfl) B.len PySem.boot_len (pa_cons (pv 0) pa_nil)) pe_int (nomark _)))))
      (pss_one (ps_ret pe_bl))
      pss_nil)
    (pss_cons (ps_asg (pv 0) (kT2 (K := K) rfl rfl (pg_name (i := 2) sc__is_sum.nd rfl (.inl rfl)) (pg_name (i := 3) sc__is_sum.nd rfl (.inl rfl))))
    (pss_cons (ps_if (PW.pt (pw_or (pt_cmpR kNeTy (pe_callTy (kType (K := K) rfl) (by rfl) B.type (by decide +kernel) (pa_cons (pv 2) pa_nil)) (pe_bltn (v := .ty "tuple") (by rfl) B.tuple (by decide +kernel) rfl) (nomark _)) (pw_or1 (pt_cmpR op_ne (pe_callB (kLen (K := K) rfl) (by rfl) B.len PySem.boot_len (pa_cons (pv 2) pa_nil)) (pv 1) (nomark _)))))
      (pss_one (ps_ret pe_bl))
      pss_nil)
    (pss_cons (ps_if (pt_not (pt_val (pe_callB (kAll (K := K) rfl rfl) (by rfl) B.all (by decide +kernel) (pa_cons (pe_lc (own := [("number", 4)]) rfl sc__is_sum.nd (kTup_ (K := K) rfl (pv 2)) (blkOk_by (own := [("number", 4)]) (N := ["one", "many", "numbers", "last", "number"]) (sc := defScope s__is_sum) (by decide +kernel)) (fun _ _ _ _ _ => (pgN (i := 4) sc__is_sum.nd rfl (.inl rfl) (.inr rfl))) (fun _ _ _ _ _ => pts_nil) (fun _ _ _ _ _ => (C8.pe_c c__is_from_to hr (Nat.le_refl _) (by rfl) (pa_cons (pv 4) (pa_cons (pe_un un_neg (C8.pe_gc (by rfl) T.HIGHEST_NUMBER)) (pa_cons (C8.pe_gc (by rfl) T.HIGHEST_NUMBER) pa_nil)))))) pa_nil))))
      (pss_one (ps_ret pe_bl))
      pss_nil)
    (pss_one (ps_ret (C8.pe_c c__is_from_to hr (Nat.le_refl _) (by rfl) (pa_cons (pv 3) (pa_cons (pe_un un_neg (C8.pe_gc (by rfl) T.HIGHEST_LAST)) (pa_cons (C8.pe_gc (by rfl) T.HIGHEST_LAST) pa_nil)))))))))), ?_⟩
  refine ⟨_, rfl, _, _, rfl, dinTy hd, _, _, rfl, rfl, (dinTy hd).known, .tup, _, rfl, ?_⟩
  rw [decTup]
  cases hd with
  | @tup a xs ds hT hA =>
    refine iteF ?_
    have hl := hA.len
    refine ⟨_, rfl, _, _, rfl, .inr hT, rfl, _, rfl, ?_⟩
    refine notDec (fun c => ?_) (fun c => ?_)
    · have z := q H (Same.refl _)
      rw [sumOk_not (fun e => c (intEq.mpr (by omega)))] at z
      exact z
    · have c' := intEq.mp c
      obtain ⟨x, y, dx, dy, rfl, rfl, hx, hy⟩ := din2 hA (by omega)
      clear hA hl c c'
      refine ⟨_, rfl, _, _, rfl, hT, rfl, _, _, rfl, _, _, rfl, rfl, ?_⟩
      refine ⟨_, rfl, _, _, rfl, dinTy hx, _, _, rfl, rfl, (dinTy hx).known, .tup, _, rfl, ?_⟩
      rw [decTup]
      cases hx with
      | @tup t ns dns hT2 hA2 =>
        refine iteF ?_
        have hl2 := hA2.len
        refine ⟨_, rfl, _, _, rfl, .inr hT2, _, rfl, rfl, _, rfl, ?_⟩
        refine notDec (fun c => ?_) (fun c => ?_)
        · have z := q H (Same.refl _)
          have ne : ¬ dns.length = many := fun e => c (intEq.mpr (by omega))
          have e : sumOk many (.tup [.tup dns, dy]) = false := by simp [sumOk, ne]
          rw [e] at z
          exact z
        · have c' := intEq.mp c
          have em : dns.length = many := by omega
          refine ⟨_, rfl, _, rfl, ⟨_, hT2⟩, fun D nD => ?_⟩
          refine lc_it walk_tup (Made H D (fun i y _ => y = .bl ((dns[i]?.map fun n => fromTo n (-9) 9).getD false))) (made0 nD) (fun i H1 _ p => tupS p.same hT2) (fun i z H1 H2 hi p y => ?_) (fun H1 p => ?_)
          · obtain ⟨rfl, ez⟩ := y
            obtain ⟨dz, e1, hz⟩ := dinAt (dinASame p.same hA2) ez
            refine ⟨rfl, ?_⟩
            refine lcYes ?_
            refine ⟨_, rfl, _, rfl, z, dz, -9, 9, rfl, hz, ?_⟩
            exact p.push nD (fun _ _ _ _ _ h => h) (by omega) (Same.refl _) (by simp [e1])
          · obtain ⟨g, sm⟩ := madeBl (p := fun n => fromTo n (-9) 9) p (by omega)
            refine ⟨_, _, rfl, .of g, _, rfl, ?_⟩
            have z := q H1 sm
            have e : sumOk many (.tup [.tup dns, dy]) = ((dns.all fun n => fromTo n (-9) 9) && fromTo dy (-99) 99) := by simp [sumOk, em]
            rw [e] at z
            rw [allMap]
            cases ha : dns.all (fun n => fromTo n (-9) 9) with
            | false =>
              rw [ha] at z
              exact iteT z
            | true =>
              rw [ha] at z
              refine iteF ?_
              exact ⟨_, rfl, _, rfl, _, dy, -99, 99, rfl, dinSame sm hy, z⟩
      | _ =>
        refine iteT ?_
        exact q _ (Same.refl _)
  | _ =>
    refine iteT ?_
    exact q _ (Same.refl _)

end

end LW

namespace LW
open PySem PySem.Spec PyProof.Rows L2
local macro_rules | `(tactic| walk_at "go1") => `(tactic| first
  | refine ⟨_, rfl, ?_⟩
  | refine ⟨_, _, rfl, rfl, ?_⟩
  | refine ⟨show (0 : Int) < _ from by omega, ?_⟩
  | refine ⟨show CMul _ _ from by first | exact .inl ⟨by omega, by omega⟩ | exact .inr ⟨by omega, by omega⟩, ?_⟩
  | refine ⟨show CDiv _ _ from ⟨by omega, by omega⟩, ?_⟩)
local macro_rules | `(tactic| walk_at "go") => `(tactic| repeat walk_at "go1")

section
variable {P : Program} {w : World} {K : PySem.W.Frag} {mg : Str → Option Value} {base : Heap}

abbrev s__are_kept_words : Stmt := topS 22
theorem sc__are_kept_words : FnScope ["words", "many", "word"] ["words", "many"] (defScope s__are_kept_words) := ⟨rfl, rfl, rfl, by decide +kernel, rfl, by decide +kernel, by decide +kernel⟩

def spWords (K : PySem.W.Frag) : Sp := fun vs H Q _ => ∃ (v : V) (d : D) (many : Nat), vs = [v, .int (many : Int)] ∧ Din K H v d ∧ many ≤ 1000 ∧ ∀ H', Same H H' → Q (.bl (wordsOk many d)) H'
theorem ok__are_kept_words {f : Addr} {fd : FuncData} {k : Nat} (F : Fun K "_are_kept_words" "_are_kept_words" s__are_kept_words f fd) (B : Bl mg) (T : Cs mg) (c__is_sum : C8.Cal P w K mg base k "_is_sum" (spIsS K) []) : FnOk P w K mg base CX0 (k + 1) f fd ["words", "many"] (spWords K) := by
  refine F.ok sc__are_kept_words (fun vs H Q E h => ?_) (fun cdv A outer s H vs Q E hr h => ?_)
  · obtain ⟨v, d, many, rfl, _⟩ := h
    rfl
  obtain ⟨v, d, many, rfl, hd, hm, q⟩ := h
  refine ⟨_, (pss_cons (ps_if (PW.pt (pw_or (pt_cmpR kNeTy (pe_callTy (kType (K := K) rfl) (by rfl) B.type (by decide +kernel) (pa_cons (pv 0) pa_nil)) (pe_bltn (v := .ty "tuple") (by rfl) B.tuple (by decide +kernel) rfl) (nomark _)) (pw_or1 (pt_cmpR op_gt (pe_callB (kLen (K := K) rfl) (by rfl) B.len PySem.boot_len (pa_cons (pv 0) pa_nil)) (C8.pe_gc (by rfl) T.MOST_KEPT) (nomark _)))))
      (pss_one (ps_ret pe_bl))
      pss_nil)
    (pss_one (ps_ret (pe_callB (kAll (K := K) rfl rfl) (by rfl) B.all (by decide +kernel) (pa_cons (pe_lc (own := [("word", 2)]) rfl sc__are_kept_words.nd (kTup_ (K := K) rfl (pv 0)) (blkOk_by (own := [("word", 2)]) (N := ["words", "many", "word"]) (sc := defScope s__are_kept_words) (by decide +kernel)) (fun _ _ _ _ _ => (pgN (i := 2) sc__are_kept_words.nd rfl (.inl rfl) (.inr rfl))) (fun _ _ _ _ _ => pts_nil) (fun _ _ _ _ _ => (C8.pe_c c__is_sum hr (Nat.le_refl _) (by rfl) (pa_cons (pv 2) (pa_cons (pv 1) pa_nil))))) pa_nil))))), ?_⟩
  refine ⟨_, rfl, _, _, rfl, dinTy hd, _, _, rfl, rfl, (dinTy hd).known, .tup, _, rfl, ?_⟩
  rw [decTup]
  cases hd with
  | @tup a xs ds hT hA =>
    refine iteF ?_
    have hl := hA.len
    refine ⟨_, rfl, _, _, rfl, .inr hT, _, _, rfl, rfl, _, rfl, ?_⟩
    refine yesDec (fun c => ?_) (fun c => ?_)
    · have z := q H (Same.refl _)
      have e : wordsOk many (.tup ds) = false := by
        have : ¬ ds.length ≤ 3 := by omega
        simp [wordsOk, this]
      rw [e] at z
      exact z
    · refine ⟨_, rfl, _, rfl, ⟨_, hT⟩, fun D nD => ?_⟩
      refine lc_it walk_tup (Made H D (fun i y _ => y = .bl ((ds[i]?.map (sumOk many)).getD false))) (made0 nD) (fun i H1 _ p => tupS p.same hT) (fun i z H1 H2 hi p y => ?_) (fun H1 p => ?_)
      · obtain ⟨rfl, ez⟩ := y
        obtain ⟨dz, e1, hz⟩ := dinAt (dinASame p.same hA) ez
        refine ⟨rfl, ?_⟩
        refine lcYes ?_
        refine ⟨_, rfl, _, rfl, z, dz, many, rfl, hz, hm, fun H3 s3 => ?_⟩
        exact p.push nD (fun _ _ _ _ _ h => h) (by omega) s3 (by simp [e1])
      · obtain ⟨g, sm⟩ := madeBl (p := sumOk many) p (by omega)
        refine ⟨_, _, rfl, .of g, ?_⟩
        rw [allMap]
        have z := q H1 sm
        have e : wordsOk many (.tup ds) = ds.all (sumOk many) := by
          have : ds.length ≤ 3 := by omega
          simp [wordsOk, this]
        rw [e] at z
        exact z
  | _ =>
    refine iteT ?_
    exact q _ (Same.refl _)
abbrev s_rows_within : Stmt := topS 16
theorem sc_rows_within : FnScope ["row"] ["row"] (defScope s_rows_within) := ⟨rfl, rfl, rfl, by decide +kernel, rfl, by decide +kernel, by decide +kernel⟩

/-- of a row that is well -/
def spWithin (K : PySem.W.Frag) : Sp := fun vs H Q _ => ∃ (v : V) (d : D) (many : Nat), vs = [v] ∧ Din K H v d ∧ rowOk many d = true ∧ ∀ (p : Addr) (ws : List V) (H' : Hp), H p = none → Same H H' → H' p = some (.tup ws) → DinA K H' ws (inner d) → Q (.ref p) H'
theorem rowShape {many : Nat} {d : D} (h : rowOk many d = true) : (∃ b s, d = .tup [.str "put", b, s]) ∨ (∃ w, d = .tup [.str "say", w]) ∨ (∃ w a b, d = .tup [.str "if", w, a, b]) ∨ ∃ w ws b, d = .tup [.str "loop", w, ws, b] := by
  unfold rowOk at h
  split at h
  · rename_i k rest
    unfold restOk at h
    split at h
    · rename_i e
      subst e
      split at h
      · exact .inl ⟨_, _, rfl⟩
      · cases h
    · split at h
      · rename_i e
        subst e
        split at h
        · exact .inr (.inl ⟨_, rfl⟩)
        · cases h
      · split at h
        · rename_i e
          subst e
          split at h
          · exact .inr (.inr (.inl ⟨_, _, _, rfl⟩))
          · cases h
        · split at h
          · rename_i e
            subst e
            split at h
            · exact .inr (.inr (.inr ⟨_, _, _, rfl⟩))
            · cases h
          · cases h
  · cases h
theorem kDiff : ("put" : Str) ≠ "if" ∧ ("put" : Str) ≠ "loop" ∧ ("say" : Str) ≠ "if" ∧ ("say" : Str) ≠ "loop" ∧ ("loop" : Str) ≠ "if" ∧ ("if" : Str) ≠ "loop" ∧ ("say" : Str) ≠ "put" ∧ ("if" : Str) ≠ "put" ∧ ("loop" : Str) ≠ "put" ∧ ("put" : Str) ≠ "say" ∧ ("if" : Str) ≠ "say" ∧ ("loop" : Str) ≠ "say" := by decide +kernel
theorem decS {a b : Str} (h : a ≠ b) : decide (V.str a = V.str b) = false := decide_eq_false fun e => h (V.str.inj e)
theorem ok_rows_within {f : Addr} {fd : FuncData} {k : Nat} (F : Fun K "rows_within" "rows_within" s_rows_within f fd) : FnOk P w K mg base CX0 (k + 1) f fd ["row"] (spWithin K) := by
  refine F.ok sc_rows_within (fun vs H Q E h => ?_) (fun cdv A outer s H vs Q E hr h => ?_)
  · obtain ⟨v, d, many, rfl, _⟩ := h
    rfl
  obtain ⟨v, d, many, rfl, hd, ho, q⟩ := h
  refine ⟨_, (pss_cons (ps_if (pt_cmpR op_eq (pe_ix (kIxT (K := K) rfl) (pv 0) pe_int (fun _ _ => rfl)) pe_str (nomark _))
      (pss_one (ps_ret (pe_tup (pa_cons (pe_ix (kIxT (K := K) rfl) (pv 0) pe_int (fun _ _ => rfl)) (pa_cons (pe_ix (kIxT (K := K) rfl) (pv 0) pe_int (fun _ _ => rfl)) pa_nil)))))
      pss_nil)
    (pss_cons (ps_if (pt_cmpR op_eq (pe_ix (kIxT (K := K) rfl) (pv 0) pe_int (fun _ _ => rfl)) pe_str (nomark _))
      (pss_one (ps_ret (pe_tup (pa_cons (pe_ix (kIxT (K := K) rfl) (pv 0) pe_int (fun _ _ => rfl)) pa_nil))))
      pss_nil)
    (pss_one (ps_ret (pe_tup pa_nil))))), ?_⟩
  obtain ⟨k1, k2, k3, k4, k5, k6, _⟩ := kDiff
  rcases rowShape ho with ⟨b, sm, rfl⟩ | ⟨wd, rfl⟩ | ⟨wd, r1, r2, rfl⟩ | ⟨wd, ws, r1, rfl⟩
  · cases hd with
    | tup hT hA =>
      cases hA with
      | cons h0 hA1 =>
        cases h0
        refine ⟨_, rfl, _, _, _, _, rfl, rfl, hT, atI_nat (j := 0) rfl, rfl, _, rfl, ?_⟩
        rw [decS k1]
        refine iteF ?_
        refine ⟨_, rfl, _, _, _, _, rfl, rfl, hT, atI_nat (j := 0) rfl, rfl, _, rfl, ?_⟩
        rw [decS k2]
        refine iteF ⟨by show 0 ≤ sizeLine; decide, fun p np => q p [] _ np (sameNew np) upd_same ?_⟩
        simp [inner, k1, k2]
        exact .nil
  · cases hd with
    | tup hT hA =>
      cases hA with
      | cons h0 hA1 =>
        cases h0
        refine ⟨_, rfl, _, _, _, _, rfl, rfl, hT, atI_nat (j := 0) rfl, rfl, _, rfl, ?_⟩
        rw [decS k3]
        refine iteF ?_
        refine ⟨_, rfl, _, _, _, _, rfl, rfl, hT, atI_nat (j := 0) rfl, rfl, _, rfl, ?_⟩
        rw [decS k4]
        refine iteF ⟨by show 0 ≤ sizeLine; decide, fun p np => q p [] _ np (sameNew np) upd_same ?_⟩
        simp [inner, k3, k4]
        exact .nil
  · cases hd with
    | tup hT hA =>
      cases hA with
      | cons h0 hA1 =>
        cases h0
        cases hA1 with
        | cons hw hA2 =>
          have hA3 := hA2
          cases hA2 with
          | cons ha hA4 =>
            cases hA4 with
            | cons hb hA5 =>
              cases hA5
              refine ⟨_, rfl, _, _, _, _, rfl, rfl, hT, atI_nat (j := 0) rfl, rfl, _, rfl, ?_⟩
              rw [decide_eq_true rfl]
              refine iteT ⟨_, rfl, _, _, _, _, rfl, rfl, hT, atI_nat (j := 2) rfl, _, rfl, _, _, _, _, rfl, rfl, hT, atI_nat (j := 3) rfl, by show 2 ≤ sizeLine; decide, fun p np => q p _ _ np (sameNew np) upd_same ?_⟩
              have e : inner (.tup [.str "if", wd, r1, r2]) = [r1, r2] := by simp [inner]
              rw [e]
              exact dinASame (sameNew np) hA3
  · cases hd with
    | tup hT hA =>
      cases hA with
      | cons h0 hA1 =>
        cases h0
        cases hA1 with
        | cons hw hA2 =>
          cases hA2 with
          | cons ha hA4 =>
            have hA3 := hA4
            cases hA4 with
            | cons hb hA5 =>
              cases hA5
              refine ⟨_, rfl, _, _, _, _, rfl, rfl, hT, atI_nat (j := 0) rfl, rfl, _, rfl, ?_⟩
              rw [decS k5]
              refine iteF ?_
              refine ⟨_, rfl, _, _, _, _, rfl, rfl, hT, atI_nat (j := 0) rfl, rfl, _, rfl, ?_⟩
              rw [decide_eq_true rfl]
              refine iteT ⟨_, rfl, _, _, _, _, rfl, rfl, hT, atI_nat (j := 3) rfl, by show 1 ≤ sizeLine; decide, fun p np => q p _ _ np (sameNew np) upd_same ?_⟩
              have e : inner (.tup [.str "loop", wd, ws, r1]) = [r1] := by simp [inner, k5]
              rw [e]
              exact dinASame (sameNew np) hA3

end

end LW

namespace LW
open PySem PySem.Spec PyProof.Rows L2
local macro_rules | `(tactic| walk_at "go1") => `(tactic| first
  | refine ⟨_, rfl, ?_⟩
  | refine ⟨_, _, rfl, rfl, ?_⟩
  | refine ⟨show (0 : Int) < _ from by omega, ?_⟩
  | refine ⟨show CMul _ _ from by first | exact .inl ⟨by omega, by omega⟩ | exact .inr ⟨by omega, by omega⟩, ?_⟩
  | refine ⟨show CDiv _ _ from ⟨by omega, by omega⟩, ?_⟩)
local macro_rules | `(tactic| walk_at "go") => `(tactic| repeat walk_at "go1")

section
variable {P : Program} {w : World} {K : PySem.W.Frag} {mg : Str → Option Value} {base : Heap}

abbrev s__check_count : Stmt := topS 20
theorem sc__check_count : FnScope ["count"] ["count"] (defScope s__check_count) := ⟨rfl, rfl, rfl, by decide +kernel, rfl, by decide +kernel, by decide +kernel⟩

def spCount (CB : Addr) : Sp := fun vs H Q E => ∃ n : Nat, vs = [.int (n : Int)] ∧ (12 < n → ∀ H', Same H H' → E (.ref CB) none H') ∧ (n ≤ 12 → Q .non H)
theorem ok__check_count {f CB : Addr} {fd : FuncData} {k : Nat} (F : Fun K "_check_count" "_check_count" s__check_count f fd) (B : Bl mg) (T : Cs mg) (XBadProgram : ExF K mg "BadProgram" CB) : FnOk P w K mg base (L2.CX P w) (k + 1) f fd ["count"] (spCount CB) := by
  refine F.okX sc__check_count (fun vs H Q E h => ?_) (fun cdv A outer s H vs Q E hr h => ?_)
  · obtain ⟨n, rfl, _⟩ := h
    rfl
  obtain ⟨n, rfl, e, q⟩ := h
  refine ⟨_, (pss_one (ps_if (pt_cmpR op_gt (pv 0) (C8.pe_gc (by rfl) T.MOST_ROWS) (nomark _))
      (pss_one (ps_raise rfl (takes_of rfl rfl rfl rfl) (pmk_ownA PySem.F.excBase_ValueError XBadProgram.xP XBadProgram.gP XBadProgram.kP (raises_own XBadProgram.bP XBadProgram.tP) (by rfl) (pa_cons (pe_joined (PJ.cons pe_str (PJ.cons (pe_fmt (C8.pe_gc (by rfl) T.MOST_ROWS)) (PJ.cons pe_str PJ.nil)))) pa_nil))))
      pss_nil)), ?_⟩
  refine ⟨_, rfl, _, _, rfl, rfl, _, rfl, ?_⟩
  refine yesDec (fun c => ?_) (fun c => ?_)
  · refine ⟨_, rfl, by decide +kernel, .inr ⟨_, rfl, by decide +kernel, _, rfl, by decide +kernel, _, rfl, by decide +kernel, by show 1 ≤ sizeLine; decide, ?_⟩⟩
    exact e (by omega) _ (Same.refl _)
  · exact q (by omega)
abbrev s__check_row : Stmt := topS 21
theorem sc__check_row : FnScope ["row", "many", "kind", "well"] ["row", "many"] (defScope s__check_row) := ⟨rfl, rfl, rfl, by decide +kernel, rfl, by decide +kernel, by decide +kernel⟩

def spRow (K : PySem.W.Frag) (CB : Addr) : Sp := fun vs H Q E => ∃ (v : V) (d : D) (many : Nat), vs = [v, .int (many : Int)] ∧ Din K H v d ∧ many ≤ 1000 ∧
  (rowOk many d = true → ∀ H', Same H H' → Q .non H') ∧ (rowOk many d = false → ∀ H', Same H H' → E (.ref CB) none H')
theorem inKinds (k : Str) : inV (.str k) [.str "put", .str "say", .str "if", .str "loop"] = true ↔ (k = "put" ∨ k = "say" ∨ k = "if" ∨ k = "loop") := by
  have e : ∀ a : Str, eqV (.str a) (.str k) = true ↔ k = a := fun a => by
    show (a == k) = true ↔ k = a
    rw [beq_iff_eq]
    exact eq_comm
  unfold inV
  simp only [List.any_cons, List.any_nil, Bool.or_eq_true, e]
  simp only [Bool.false_eq_true, or_false]
theorem restOk_no {many : Nat} {k : Str} {rest : List D} (h : ¬ (k = "put" ∨ k = "say" ∨ k = "if" ∨ k = "loop")) : restOk many k rest = false := by
  unfold restOk
  rw [if_neg (fun e => h (.inl e)), if_neg (fun e => h (.inr (.inl e))), if_neg (fun e => h (.inr (.inr (.inl e)))), if_neg (fun e => h (.inr (.inr (.inr e))))]
theorem rest_put {many : Nat} {b s : D} : restOk many "put" [b, s] = (fromTo b 0 ((many : Int) - 1) && sumOk many s) := by simp [restOk]
theorem rest_put_no {many : Nat} {r : List D} (h : r.length ≠ 2) : restOk many "put" r = false := by
  unfold restOk
  rw [if_pos rfl]
  split
  · exact absurd rfl h
  · rfl
theorem rest_say {many : Nat} {s : D} : restOk many "say" [s] = sumOk many s := by simp [restOk, kDiff]
theorem rest_say_no {many : Nat} {r : List D} (h : r.length ≠ 1) : restOk many "say" r = false := by
  unfold restOk
  rw [if_neg kDiff.2.2.2.2.2.2.1, if_pos rfl]
  split
  · exact absurd rfl h
  · rfl
theorem rest_if {many : Nat} {s a b : D} : restOk many "if" [s, a, b] = sumOk many s := by simp [restOk, kDiff]
theorem rest_if_no {many : Nat} {r : List D} (h : r.length ≠ 3) : restOk many "if" r = false := by
  unfold restOk
  rw [if_neg kDiff.2.2.2.2.2.2.2.1, if_neg kDiff.2.2.2.2.2.2.2.2.2.2.1, if_pos rfl]
  split
  · exact absurd rfl h
  · rfl
theorem rest_loop {many : Nat} {s ws b : D} : restOk many "loop" [s, ws, b] = (sumOk many s && wordsOk many ws) := by simp [restOk, kDiff]
theorem rest_loop_no {many : Nat} {r : List D} (h : r.length ≠ 3) : restOk many "loop" r = false := by
  unfold restOk
  rw [if_neg kDiff.2.2.2.2.2.2.2.2.1, if_neg kDiff.2.2.2.2.2.2.2.2.2.2.2, if_neg kDiff.2.2.2.2.1, if_pos rfl]
  split
  · exact absurd rfl h
  · rfl
theorem ok__check_row {f CB : Addr} {fd : FuncData} {k : Nat} (F : Fun K "_check_row" "_check_row" s__check_row f fd) (B : Bl mg) (T : Cs mg) (XBadProgram : ExF K mg "BadProgram" CB) (c__is_from_to : C8.Cal P w K mg base k "_is_from_to" (spFT K) [])
    (c__is_sum : C8.Cal P w K mg base k "_is_sum" (spIsS K) []) (c__are_kept_words : C8.Cal P w K mg base k "_are_kept_words" (spWords K) []) : FnOk P w K mg base (L2.CX P w) (k + 1) f fd ["row", "many"] (spRow K CB) := by
  refine F.okX sc__check_row (fun vs H Q E h => ?_) (fun cdv A outer s H vs Q E hr h => ?_)
  · obtain ⟨v, d, many, rfl, _⟩ := h
    rfl
  obtain ⟨v, d, many, rfl, hd, hm, q, e⟩ := h
  refine ⟨_, (pss_cons (ps_if (PW.pt (pw_or (pt_cmpR kNeTy (pe_callTy (kType (K := K) rfl) (by rfl) B.type (by decide +kernel) (pa_cons (pv 0) pa_nil)) (pe_bltn (v := .ty "tuple") (by rfl) B.tuple (by decide +kernel) rfl) (nomark _)) (pw_or1 (pt_cmpR op_eq (pe_callB (kLen (K := K) rfl) (by rfl) B.len PySem.boot_len (pa_cons (pv 0) pa_nil)) pe_int (nomark _)))))
      (pss_one (ps_raise rfl (takes_of rfl rfl rfl rfl) (pmk_ownA PySem.F.excBase_ValueError XBadProgram.xP XBadProgram.gP XBadProgram.kP (raises_own XBadProgram.bP XBadProgram.tP) (by rfl) (pa_cons pe_str pa_nil))))
      pss_nil)
    (pss_cons (ps_set (i := 2) sc__check_row.nd rfl (.inl rfl) (pe_ix (kIxT (K := K) rfl) (pv 0) pe_int (fun _ _ => rfl)))
    (pss_cons (ps_if (PW.pt (pw_or (pt_cmpR kNeTy (pe_callTy (kType (K := K) rfl) (by rfl) B.type (by decide +kernel) (pa_cons (pv 2) pa_nil)) (pe_bltn (v := .ty "str") (by rfl) B.str (by decide +kernel) rfl) (nomark _)) (pw_or1 (pt_cmpR (kNotIn (K := K) rfl) (pv 2) (pe_tup (pa_cons pe_str (pa_cons pe_str (pa_cons pe_str (pa_cons pe_str pa_nil))))) (by rfl)))))
      (pss_one (ps_raise rfl (takes_of rfl rfl rfl rfl) (pmk_ownA PySem.F.excBase_ValueError XBadProgram.xP XBadProgram.gP XBadProgram.kP (raises_own XBadProgram.bP XBadProgram.tP) (by rfl) (pa_cons pe_str pa_nil))))
      pss_nil)
    (C8.pss_cut (ps_if (pt_cmpR op_eq (pv 2) pe_str (nomark _))
      (pss_one (ps_set (i := 3) sc__check_row.nd rfl (.inl rfl) (pe_and (pe_cmpR op_eq (pe_callB (kLen (K := K) rfl) (by rfl) B.len PySem.boot_len (pa_cons (pv 0) pa_nil)) pe_int (nomark _)) (pe_and (C8.pe_c c__is_from_to hr (Nat.le_refl _) (by rfl) (pa_cons (pe_ix (kIxT (K := K) rfl) (pv 0) pe_int (fun _ _ => rfl)) (pa_cons pe_int (pa_cons (pe_op op_sub (pv 1) pe_int) pa_nil)))) (pe_one (C8.pe_c c__is_sum hr (Nat.le_refl _) (by rfl) (pa_cons (pe_ix (kIxT (K := K) rfl) (pv 0) pe_int (fun _ _ => rfl)) (pa_cons (pv 1) pa_nil))))))))
      (pss_one (ps_if (pt_cmpR op_eq (pv 2) pe_str (nomark _))
        (pss_one (ps_set (i := 3) sc__check_row.nd rfl (.inl rfl) (pe_and (pe_cmpR op_eq (pe_callB (kLen (K := K) rfl) (by rfl) B.len PySem.boot_len (pa_cons (pv 0) pa_nil)) pe_int (nomark _)) (pe_one (C8.pe_c c__is_sum hr (Nat.le_refl _) (by rfl) (pa_cons (pe_ix (kIxT (K := K) rfl) (pv 0) pe_int (fun _ _ => rfl)) (pa_cons (pv 1) pa_nil)))))))
        (pss_one (ps_if (pt_cmpR op_eq (pv 2) pe_str (nomark _))
          (pss_one (ps_set (i := 3) sc__check_row.nd rfl (.inl rfl) (pe_and (pe_cmpR op_eq (pe_callB (kLen (K := K) rfl) (by rfl) B.len PySem.boot_len (pa_cons (pv 0) pa_nil)) pe_int (nomark _)) (pe_one (C8.pe_c c__is_sum hr (Nat.le_refl _) (by rfl) (pa_cons (pe_ix (kIxT (K := K) rfl) (pv 0) pe_int (fun _ _ => rfl)) (pa_cons (pv 1) pa_nil)))))))
          (pss_one (ps_set (i := 3) sc__check_row.nd rfl (.inl rfl) (pe_and (pe_cmpR op_eq (pe_callB (kLen (K := K) rfl) (by rfl) B.len PySem.boot_len (pa_cons (pv 0) pa_nil)) pe_int (nomark _)) (pe_and (C8.pe_c c__is_sum hr (Nat.le_refl _) (by rfl) (pa_cons (pe_ix (kIxT (K := K) rfl) (pv 0) pe_int (fun _ _ => rfl)) (pa_cons (pv 1) pa_nil))) (pe_one (C8.pe_c c__are_kept_words hr (Nat.le_refl _) (by rfl) (pa_cons (pe_ix (kIxT (K := K) rfl) (pv 0) pe_int (fun _ _ => rfl)) (pa_cons (pv 1) pa_nil)))))))))))))
    (pss_one (ps_if (pt_not (pt_val (pv 3)))
      (pss_one (ps_raise rfl (takes_of rfl rfl rfl rfl) (pmk_ownA PySem.F.excBase_ValueError XBadProgram.xP XBadProgram.gP XBadProgram.kP (raises_own XBadProgram.bP XBadProgram.tP) (by rfl) (pa_cons (pe_joined (PJ.cons pe_str (PJ.cons (pe_fmt (pv 2)) PJ.nil))) pa_nil))))
      pss_nil)))))), ?_⟩
  refine ⟨_, rfl, _, _, rfl, dinTy hd, _, _, rfl, rfl, (dinTy hd).known, .tup, _, rfl, ?_⟩
  rw [decTup]
  cases hd with
  | @tup a xs ds hT hA =>
    refine iteF ?_
    have hl := hA.len
    refine ⟨_, rfl, _, _, rfl, .inr hT, rfl, _, rfl, ?_⟩
    refine yesDec (fun c => ?_) (fun c => ?_)
    · have c' := intEq.mp c
      refine ⟨by show 1 ≤ sizeLine; decide, ?_⟩
      cases ds with
      | nil => exact e rfl _ (Same.refl _)
      | cons _ _ =>
        rw [List.length_cons] at hl
        omega
    · have c' : ¬ ((xs.length : Nat) : Int) = 0 := fun z => c (intEq.mpr z)
      cases hA with
      | nil => exact absurd rfl c'
      | @cons v0 vs0 d0 ds0 h0 hA1 =>
        have hl1 := hA1.len
        refine ⟨_, rfl, _, _, _, _, rfl, rfl, hT, atI_nat (j := 0) rfl, ?_⟩
        refine ⟨_, rfl, _, _, rfl, dinTy h0, _, _, rfl, rfl, (dinTy h0).known, .str, _, rfl, ?_⟩
        rw [decStr]
        cases h0 with
        | str kd =>
          refine iteF ?_
          refine ⟨_, rfl, by show 4 ≤ sizeLine; decide, fun p np => ?_⟩
          refine ⟨p, _, rfl, .inr (.of upd_same), rfl, rfl, _, rfl, ?_⟩
          have s1 : Same H (upd H p (.tup [.str "put", .str "say", .str "if", .str "loop"])) := sameNew np
          have hT1 := tupS s1 hT
          have hA2 := dinASame s1 hA1
          have hin := inKinds kd
          cases hv : inV (.str kd) [.str "put", .str "say", .str "if", .str "loop"] with
          | false =>
            refine iteT ⟨by show 1 ≤ sizeLine; decide, ?_⟩
            exact e (restOk_no fun z => by rw [hin.mpr z] at hv; cases hv) _ s1
          | true =>
            refine iteF ?_
            have hk := hin.mp hv
            generalize upd H p (.tup [.str "put", .str "say", .str "if", .str "loop"]) = H1 at *
            refine ⟨fun σ' H' => Same H H' ∧ σ' = [some (.ref a), some (.int (many : Int)), some (.str kd), some (.bl (restOk many kd ds0))], ?_, ?_⟩
            · obtain ⟨k1, k2, k3, k4, k5, k6, k7, k8, k9, k10, k11, k12⟩ := kDiff
              refine ⟨_, rfl, rfl, _, rfl, ?_⟩
              refine yesDec (fun e1 => ?_) (fun e1 => ?_)
              · have ek := strEq.mp e1
                subst ek
                refine ⟨_, rfl, _, _, rfl, .inr hT1, rfl, _, rfl, ?_⟩
                refine yesDec (fun c2 => ?_) (fun c2 => ?_)
                · have c3 := intEq.mp c2
                  rw [List.length_cons] at c3
                  obtain ⟨x, y, dx, dy, rfl, rfl, hx, hy⟩ := din2 hA2 (by omega)
                  refine ⟨_, rfl, _, _, _, _, rfl, rfl, hT1, atI_nat (j := 1) rfl, _, rfl, _, _, rfl, rfl, x, dx, 0, _, rfl, hx, _, rfl, ?_⟩
                  refine ifB (fun c4 => ?_) (fun c4 => ?_)
                  · refine ⟨_, rfl, _, _, _, _, rfl, rfl, hT1, atI_nat (j := 2) rfl, _, rfl, y, dy, many, rfl, hy, hm, fun H2 s2 => ⟨Same.trans s1 s2, ?_⟩⟩
                    rw [rest_put, c4]
                    rfl
                  · refine ⟨s1, ?_⟩
                    rw [rest_put, c4]
                    rfl
                · refine ⟨s1, ?_⟩
                  rw [rest_put_no fun z => c2 (intEq.mpr (by rw [List.length_cons] <;> omega))]
                  rfl
              · refine ⟨_, rfl, rfl, _, rfl, ?_⟩
                have n1 : kd ≠ "put" := fun z => e1 (strEq.mpr z)
                refine yesDec (fun e2 => ?_) (fun e2 => ?_)
                · have ek := strEq.mp e2
                  subst ek
                  refine ⟨_, rfl, _, _, rfl, .inr hT1, rfl, _, rfl, ?_⟩
                  refine yesDec (fun c2 => ?_) (fun c2 => ?_)
                  · have c3 := intEq.mp c2
                    rw [List.length_cons] at c3
                    obtain ⟨x, dx, rfl, rfl, hx⟩ := din1 hA2 (by omega)
                    refine ⟨_, rfl, _, _, _, _, rfl, rfl, hT1, atI_nat (j := 1) rfl, _, rfl, x, dx, many, rfl, hx, hm, fun H2 s2 => ⟨Same.trans s1 s2, ?_⟩⟩
                    rw [rest_say]
                    rfl
                  · refine ⟨s1, ?_⟩
                    rw [rest_say_no fun z => c2 (intEq.mpr (by rw [List.length_cons] <;> omega))]
                    rfl
                · refine ⟨_, rfl, rfl, _, rfl, ?_⟩
                  have n2 : kd ≠ "say" := fun z => e2 (strEq.mpr z)
                  refine yesDec (fun e3 => ?_) (fun e3 => ?_)
                  · have ek := strEq.mp e3
                    subst ek
                    refine ⟨_, rfl, _, _, rfl, .inr hT1, rfl, _, rfl, ?_⟩
                    refine yesDec (fun c2 => ?_) (fun c2 => ?_)
                    · have c3 := intEq.mp c2
                      rw [List.length_cons] at c3
                      obtain ⟨x, y, z, dx, dy, dz, rfl, rfl, hx, hy, hz⟩ := din3 hA2 (by omega)
                      refine ⟨_, rfl, _, _, _, _, rfl, rfl, hT1, atI_nat (j := 1) rfl, _, rfl, x, dx, many, rfl, hx, hm, fun H2 s2 => ⟨Same.trans s1 s2, ?_⟩⟩
                      rw [rest_if]
                      rfl
                    · refine ⟨s1, ?_⟩
                      rw [rest_if_no fun z => c2 (intEq.mpr (by rw [List.length_cons] <;> omega))]
                      rfl
                  · have n3 : kd ≠ "if" := fun z => e3 (strEq.mpr z)
                    have ek : kd = "loop" := by
                      rcases hk with z | z | z | z
                      · exact absurd z n1
                      · exact absurd z n2
                      · exact absurd z n3
                      · exact z
                    subst ek
                    refine ⟨_, rfl, _, _, rfl, .inr hT1, rfl, _, rfl, ?_⟩
                    refine yesDec (fun c2 => ?_) (fun c2 => ?_)
                    · have c3 := intEq.mp c2
                      rw [List.length_cons] at c3
                      obtain ⟨x, y, z, dx, dy, dz, rfl, rfl, hx, hy, hz⟩ := din3 hA2 (by omega)
                      refine ⟨_, rfl, _, _, _, _, rfl, rfl, hT1, atI_nat (j := 1) rfl, _, rfl, x, dx, many, rfl, hx, hm, fun H2 s2 => ⟨_, rfl, ?_⟩⟩
                      refine ifB (fun c4 => ?_) (fun c4 => ?_)
                      · refine ⟨_, rfl, _, _, _, _, rfl, rfl, tupS s2 hT1, atI_nat (j := 2) rfl, _, rfl, y, dy, many, rfl, dinSame s2 hy, hm, fun H3 s3 => ⟨Same.trans s1 (Same.trans s2 s3), ?_⟩⟩
                        rw [rest_loop, c4]
                        rfl
                      · refine ⟨Same.trans s1 s2, ?_⟩
                        rw [rest_loop, c4]
                        rfl
                    · refine ⟨s1, ?_⟩
                      rw [rest_loop_no fun z => c2 (intEq.mpr (by rw [List.length_cons] <;> omega))]
                      rfl
            · rintro σ' H' ⟨sm, rfl⟩
              refine ⟨_, rfl, _, rfl, ?_⟩
              have q' : restOk many kd ds0 = true → ∀ H', Same H H' → Q .non H' := q
              have e' : restOk many kd ds0 = false → ∀ H', Same H H' → E (.ref CB) none H' := e
              cases hb : restOk many kd ds0 with
              | true => exact iteF (q' hb _ sm)
              | false =>
                refine iteT ?_
                have lk : kd.length ≤ 4 := by
                  rcases hk with z | z | z | z <;> rw [z] <;> decide +kernel
                refine ⟨_, rfl, by decide +kernel, _, rfl, .inl ⟨_, rfl, Nat.le_trans lk (by decide), _, rfl, ?_, by show 1 ≤ sizeLine; decide, e' hb _ sm⟩⟩
                rcases hk with z | z | z | z <;> rw [z] <;> decide +kernel
        | _ =>
          refine iteT ⟨by show 1 ≤ sizeLine; decide, ?_⟩
          exact e rfl _ (Same.refl _)
  | _ =>
    refine iteT ⟨by show 1 ≤ sizeLine; decide, ?_⟩
    exact e rfl _ (Same.refl _)

end

end LW

namespace LW
open PySem PySem.Spec PyProof.Rows L2
local macro_rules | `(tactic| walk_at "go1") => `(tactic| first
  | refine ⟨_, rfl, ?_⟩
  | refine ⟨_, _, rfl, rfl, ?_⟩
  | refine ⟨show (0 : Int) < _ from by omega, ?_⟩
  | refine ⟨show CMul _ _ from by first | exact .inl ⟨by omega, by omega⟩ | exact .inr ⟨by omega, by omega⟩, ?_⟩
  | refine ⟨show CDiv _ _ from ⟨by omega, by omega⟩, ?_⟩)
local macro_rules | `(tactic| walk_at "go") => `(tactic| repeat walk_at "go1")

section
variable {P : Program} {w : World} {K : PySem.W.Frag} {mg : Str → Option Value} {base : Heap}

theorem foldTake {α β : Type} {g : β → α → Option β} {l : List α} {a c : β} {i : Nat} {d : α} (h : (l.take i).foldlM g a = some c) (e : l[i]? = some d) : (l.take (i + 1)).foldlM g a = g c d := by
  rw [List.take_add_one, e, List.foldlM_append, h]
  simp
theorem foldNone {α β : Type} {g : β → α → Option β} {l : List α} {a c : β} {i : Nat} {d : α} (h : (l.take i).foldlM g a = some c) (e : l[i]? = some d) (n : g c d = none) : l.foldlM g a = none := by
  obtain ⟨hi, rfl⟩ := List.getElem?_eq_some_iff.mp e
  have el : l = l.take i ++ l[i] :: l.drop (i + 1) := by rw [← List.drop_eq_getElem_cons hi, List.take_append_drop]
  rw [el, List.foldlM_append, h]
  show ((l[i] :: l.drop (i + 1)).foldlM g c) = none
  rw [List.foldlM_cons, n]
  rfl
abbrev s__check_rows : Stmt := topS 19
theorem sc__check_rows : FnScope ["rows", "many", "depth", "count", "row", "inner"] ["rows", "many", "depth"] (defScope s__check_rows) := ⟨rfl, rfl, rfl, by decide +kernel, rfl, by decide +kernel, by decide +kernel⟩

def spRows (K : PySem.W.Frag) (CB : Addr) (i : Nat) : Sp := fun vs H Q E => ∃ (v : V) (d : D) (many depth : Nat), vs = [v, .int (many : Int), .int (depth : Int)] ∧ Din K H v d ∧ many ≤ 1000 ∧ depth + i = 5 ∧ depth ≤ 4 ∧
  (∀ n : Nat, chk many (i - 1) d = some n → ∀ H', Same H H' → Q (.int (n : Int)) H') ∧ (chk many (i - 1) d = none → ∀ H', Same H H' → E (.ref CB) none H')
theorem ok__check_rows {f CB : Addr} {fd : FuncData} {k i : Nat} (F : Fun K "_check_rows" "_check_rows" s__check_rows f fd) (B : Bl mg) (T : Cs mg) (XBadProgram : ExF K mg "BadProgram" CB) (c__check_count : CalX P w K mg base k "_check_count" (spCount CB))
    (c__check_row : CalX P w K mg base k "_check_row" (spRow K CB)) (c_rows_within : C8.Cal P w K mg base k "rows_within" (spWithin K) []) (c__check_rows : CalX P w K mg base k "_check_rows" (spRows K CB i)) :
    FnOk P w K mg base (L2.CX P w) (k + 1) f fd ["rows", "many", "depth"] (spRows K CB (i + 1)) := by
  refine F.okX sc__check_rows (fun vs H Q E h => ?_) (fun cdv A outer s H vs Q E hr h => ?_)
  · obtain ⟨v, d, many, depth, rfl, _⟩ := h
    rfl
  obtain ⟨v, d, many, depth, rfl, hd, hm, hi, hi2, q, e⟩ := h
  refine ⟨_, (pss_cons (ps_if (pt_cmpR op_gt (pv 2) (C8.pe_gc (by rfl) T.MOST_WITHIN) (nomark _))
      (pss_one (ps_raise rfl (takes_of rfl rfl rfl rfl) (pmk_ownA PySem.F.excBase_ValueError XBadProgram.xP XBadProgram.gP XBadProgram.kP (raises_own XBadProgram.bP XBadProgram.tP) (by rfl) (pa_cons (pe_joined (PJ.cons pe_str (PJ.cons (pe_fmt (C8.pe_gc (by rfl) T.MOST_WITHIN)) (PJ.cons pe_str PJ.nil)))) pa_nil))))
      pss_nil)
    (pss_cons (ps_if (pt_cmpR kNeTy (pe_callTy (kType (K := K) rfl) (by rfl) B.type (by decide +kernel) (pa_cons (pv 0) pa_nil)) (pe_bltn (v := .ty "tuple") (by rfl) B.tuple (by decide +kernel) rfl) (nomark _))
      (pss_one (ps_raise rfl (takes_of rfl rfl rfl rfl) (pmk_ownA PySem.F.excBase_ValueError XBadProgram.xP XBadProgram.gP XBadProgram.kP (raises_own XBadProgram.bP XBadProgram.tP) (by rfl) (pa_cons pe_str pa_nil))))
      pss_nil)
    (pss_cons (ps_set (i := 3) sc__check_rows.nd rfl (.inl rfl) (pe_callB (kLen (K := K) rfl) (by rfl) B.len PySem.boot_len (pa_cons (pv 0) pa_nil)))
    (pss_cons (ps_expr (cX c__check_count hr (Nat.le_refl _) (by rfl) (passes_call (takes_of rfl rfl rfl rfl) (fun _ _ _ _ h => h)) (pa_cons (pv 3) pa_nil)))
    (pss_cons (ps_for (passes_of rfl) rfl (kTup_ (K := K) rfl (pv 0)) (pg_name (i := 4) sc__check_rows.nd rfl (.inl rfl))
      (pss_cons (ps_expr (cX c__check_row hr (Nat.le_refl _) (by rfl) (passes_call (takes_of rfl rfl rfl rfl) (fun _ _ _ _ h => h)) (pa_cons (pv 4) (pa_cons (pv 1) pa_nil))))
      (pss_one (ps_for (passes_of rfl) rfl (kTup_ (K := K) rfl (C8.pe_c c_rows_within hr (Nat.le_refl _) (by rfl) (pa_cons (pv 4) pa_nil))) (pg_name (i := 5) sc__check_rows.nd rfl (.inl rfl))
        (pss_cons (ps_aug (i := 3) sc__check_rows.nd rfl (.inl rfl) (cX c__check_rows hr (Nat.le_refl _) (by rfl) (passes_call (takes_of rfl rfl rfl rfl) (fun _ _ _ _ h => h)) (pa_cons (pv 5) (pa_cons (pv 1) (pa_cons (pe_op op_add (pv 2) pe_int) pa_nil)))) ip_add)
        (pss_one (ps_expr (cX c__check_count hr (Nat.le_refl _) (by rfl) (passes_call (takes_of rfl rfl rfl rfl) (fun _ _ _ _ h => h)) (pa_cons (pv 3) pa_nil)))))))))
    (pss_one (ps_ret (pv 3)))))))), ?_⟩
  have ei : i + 1 - 1 = i := by omega
  rw [ei] at q e
  refine ⟨_, rfl, _, _, rfl, rfl, _, rfl, ?_⟩
  refine yesDec (fun c => ?_) (fun c => ?_)
  · refine ⟨_, rfl, by decide +kernel, .inr ⟨_, rfl, by decide +kernel, _, rfl, by decide +kernel, _, rfl, by decide +kernel, by show 1 ≤ sizeLine; decide, ?_⟩⟩
    have i0 : i = 0 := by omega
    subst i0
    exact e rfl _ (Same.refl _)
  · obtain ⟨r, rfl⟩ : ∃ r, i = r + 1 := ⟨i - 1, by omega⟩
    refine ⟨_, rfl, _, _, rfl, dinTy hd, _, _, rfl, rfl, (dinTy hd).known, .tup, _, rfl, ?_⟩
    rw [decTup]
    cases hd with
    | @tup a xs ds hT hA =>
      refine iteF ?_
      have hl := hA.len
      refine ⟨_, rfl, _, _, rfl, .inr hT, ?_⟩
      refine ⟨_, rfl, xs.length, rfl, fun c1 H' s1 => e ?_ _ s1, fun c1 => ?_⟩
      · have : 12 < ds.length := by omega
        simp [chk, this]
      have hn : ¬ 12 < ds.length := by omega
      have hchk : chk many (r + 1) (.tup ds) = ds.foldlM (rowTo many (chk many r)) ds.length := by simp only [chk]; rw [if_neg hn]
      rw [hchk] at q e
      refine ⟨_, rfl, _, rfl, ⟨_, hT⟩, ?_⟩
      refine for_it walk_tup (fun j σ H' => Same H H' ∧ ∃ (cnt : Nat) (y4 y5 : Option V), σ = [some (.ref a), some (.int (many : Int)), some (.int (depth : Int)), some (.int (cnt : Int)), y4, y5] ∧ (ds.take j).foldlM (rowTo many (chk many r)) ds.length = some cnt)
        ⟨Same.refl _, xs.length, none, none, rfl, by simp [hl]⟩ (fun j σ H' _ p => tupS p.1 hT) (fun j x σ H' H2 hj p y => ?_) (fun σ H' p => ?_)
      · obtain ⟨sm, cnt, y4, y5, rfl, hc⟩ := p
        obtain ⟨rfl, ex⟩ := y
        obtain ⟨dj, edj, hdj⟩ := dinAt (dinASame sm hA) ex
        refine ⟨_, rfl, _, rfl, x, dj, many, rfl, hdj, hm, fun hok H3 s3 => ?_, fun hno H3 s3 => e (foldNone hc edj (by unfold rowTo; rw [if_neg (by rw [hno]; exact Bool.false_ne_true)])) _ (Same.trans sm s3)⟩
        have hrow : rowTo many (chk many r) cnt dj = (inner dj).foldlM (addTo (chk many r)) cnt := by unfold rowTo; rw [if_pos hok]
        refine ⟨_, rfl, x, dj, many, rfl, dinSame s3 hdj, hok, fun pw ws H4 npw s4 epw hws => ?_⟩
        have s5 := Same.trans sm (Same.trans s3 s4)
        have lw := hws.len
        refine ⟨_, rfl, ⟨_, .of epw⟩, ?_⟩
        refine for_it walk_tup (fun n σ H' => Same H4 H' ∧ ∃ (cnt2 : Nat) (y5 : Option V), σ = [some (.ref a), some (.int (many : Int)), some (.int (depth : Int)), some (.int (cnt2 : Int)), some x, y5] ∧ ((inner dj).take n).foldlM (addTo (chk many r)) cnt = some cnt2)
          ⟨Same.refl _, cnt, y5, rfl, by simp⟩ (fun n σ H' _ p => .of (p.1 _ _ epw)) (fun n z σ H' H6 hn2 p y => ?_) (fun σ H' p => ?_)
        · obtain ⟨sm2, cnt2, y5', rfl, hc2⟩ := p
          obtain ⟨rfl, ez⟩ := y
          obtain ⟨dn, edn, hdn⟩ := dinAt (dinASame sm2 hws) ez
          have s6 := Same.trans s5 sm2
          refine ⟨_, rfl, _, rfl, _, rfl, _, rfl, _, _, rfl, rfl, z, dn, many, depth + 1, by simp, hdn, hm, by omega, by omega, fun m hm2 H7 s7 => ?_, fun hno H7 s7 => e (foldNone hc edj ?_) _ (Same.trans s6 s7)⟩
          · have er : chk many r dn = some m := hm2
            refine ⟨_, _, rfl, rfl, ?_⟩
            refine ⟨_, rfl, cnt2 + m, by simp, fun c7 H8 s8 => e (foldNone hc edj ?_) _ (Same.trans s6 (Same.trans s7 s8)), fun c7 => ?_⟩
            · rw [hrow]
              exact foldNone hc2 edn (by unfold addTo; rw [er]; simp; omega)
            · refine ⟨Same.trans sm2 s7, cnt2 + m, some z, by simp, ?_⟩
              rw [foldTake hc2 edn]
              unfold addTo
              rw [er]
              simp
              omega
          · have er : chk many r dn = none := hno
            rw [hrow]
            exact foldNone hc2 edn (by unfold addTo; rw [er]; rfl)
        · obtain ⟨sm2, cnt2, y5', rfl, hc2⟩ := p
          refine ⟨Same.trans s5 sm2, cnt2, some x, y5', rfl, ?_⟩
          rw [foldTake hc edj, hrow, ← hc2, List.take_of_length_le (by omega)]
      · obtain ⟨sm, cnt, y4, y5, rfl, hc⟩ := p
        rw [List.take_of_length_le (by omega)] at hc
        exact ⟨_, rfl, q cnt hc _ sm⟩
    | _ =>
      refine iteT ⟨by show 1 ≤ sizeLine; decide, ?_⟩
      exact e rfl _ (Same.refl _)
abbrev s__check_tops : Stmt := topS 18
theorem sc__check_tops : FnScope ["tops", "top"] ["tops"] (defScope s__check_tops) := ⟨rfl, rfl, rfl, by decide +kernel, rfl, by decide +kernel, by decide +kernel⟩

def spTops (K : PySem.W.Frag) (CB : Addr) : Sp := fun vs H Q E => ∃ (v : V), vs = [v] ∧
  ((∃ (a : Addr) (xs : List V) (ds : List D), v = .ref a ∧ SqL K H a xs ∧ DinA K H xs ds ∧ (topsOk ds = true → ∀ H', Same H H' → Q .non H') ∧ (topsOk ds = false → ∀ H', Same H H' → E (.ref CB) none H')) ∨
   (∃ d, Din K H v d ∧ d.ty ≠ "list" ∧ ∀ H', Same H H' → E (.ref CB) none H'))
theorem ok__check_tops {f CB : Addr} {fd : FuncData} {k : Nat} (F : Fun K "_check_tops" "_check_tops" s__check_tops f fd) (B : Bl mg) (T : Cs mg) (XBadProgram : ExF K mg "BadProgram" CB) (c__is_from_to : C8.Cal P w K mg base k "_is_from_to" (spFT K) []) :
    FnOk P w K mg base (L2.CX P w) (k + 1) f fd ["tops"] (spTops K CB) := by
  refine F.okX sc__check_tops (fun vs H Q E h => ?_) (fun cdv A outer s H vs Q E hr h => ?_)
  · obtain ⟨v, rfl, _⟩ := h
    rfl
  obtain ⟨v, rfl, h⟩ := h
  refine ⟨_, (pss_cons (ps_if (PW.pt (pw_or (pt_cmpR kNeTy (pe_callTy (kType (K := K) rfl) (by rfl) B.type (by decide +kernel) (pa_cons (pv 0) pa_nil)) (pe_bltn (v := .ty "list") (by rfl) B.list (by decide +kernel) rfl) (nomark _)) (pw_or1 (pt_not (pt_chain op_le op_le pe_int (pe_callB (kLen (K := K) rfl) (by rfl) B.len PySem.boot_len (pa_cons (pv 0) pa_nil)) (C8.pe_gc (by rfl) T.MOST_BOXES))))))
      (pss_one (ps_raise rfl (takes_of rfl rfl rfl rfl) (pmk_ownA PySem.F.excBase_ValueError XBadProgram.xP XBadProgram.gP XBadProgram.kP (raises_own XBadProgram.bP XBadProgram.tP) (by rfl) (pa_cons (pe_joined (PJ.cons pe_str (PJ.cons (pe_fmt (C8.pe_gc (by rfl) T.MOST_BOXES)) (PJ.cons pe_str PJ.nil)))) pa_nil))))
      pss_nil)
    (pss_one (ps_if (pt_not (pt_val (pe_callB (kAll (K := K) rfl rfl) (by rfl) B.all (by decide +kernel) (pa_cons (pe_lc (own := [("top", 1)]) rfl sc__check_tops.nd (kList_ (K := K) rfl (pv 0)) (blkOk_by (own := [("top", 1)]) (N := ["tops", "top"]) (sc := defScope s__check_tops) (by decide +kernel)) (fun _ _ _ _ _ => (pgN (i := 1) sc__check_tops.nd rfl (.inl rfl) (.inr rfl))) (fun _ _ _ _ _ => pts_nil) (fun _ _ _ _ _ => (C8.pe_c c__is_from_to hr (Nat.le_refl _) (by rfl) (pa_cons (pv 1) (pa_cons pe_int (pa_cons (C8.pe_gc (by rfl) T.HIGHEST_TOP) pa_nil)))))) pa_nil))))
      (pss_one (ps_raise rfl (takes_of rfl rfl rfl rfl) (pmk_ownA PySem.F.excBase_ValueError XBadProgram.xP XBadProgram.gP XBadProgram.kP (raises_own XBadProgram.bP XBadProgram.tP) (by rfl) (pa_cons (pe_joined (PJ.cons pe_str (PJ.cons (pe_fmt (C8.pe_gc (by rfl) T.HIGHEST_TOP)) PJ.nil))) pa_nil))))
      pss_nil))), ?_⟩
  rcases h with ⟨a, xs, ds, rfl, hL, hA, q, e⟩ | ⟨d, hd, hty, e⟩
  · have hl := hA.len
    refine ⟨_, rfl, _, _, rfl, .lst hL, _, _, rfl, rfl, .lst, .lst, _, rfl, ?_⟩
    rw [decide_eq_true rfl]
    refine iteF ?_
    refine ⟨_, rfl, _, _, rfl, .inl hL, _, _, rfl, rfl, _, rfl, ?_⟩
    refine yesDec (fun c1 => ?_) (fun c1 => ?_)
    · refine ⟨_, _, rfl, rfl, _, rfl, ?_⟩
      cases c2 : decide (((xs.length : Nat) : Int) ≤ 3) with
      | false =>
        refine iteT ?_
        have c2' := of_decide_eq_false c2
        refine ⟨_, rfl, by decide +kernel, .inr ⟨_, rfl, by decide +kernel, _, rfl, by decide +kernel, _, rfl, by decide +kernel, by show 1 ≤ sizeLine; decide, ?_⟩⟩
        refine e ?_ _ (Same.refl _)
        have : ¬ ds.length ≤ 3 := by omega
        simp [topsOk, this]
      | true =>
        refine iteF ?_
        have c2' := of_decide_eq_true c2
        refine ⟨_, rfl, _, rfl, ⟨_, hL⟩, fun D nD => ?_⟩
        refine lc_it walk_list (Made H D (fun i y _ => y = .bl ((ds[i]?.map fun t => fromTo t 0 9).getD false))) (made0 nD) (fun i H1 _ p => Same.seq p.same hL) (fun i z H1 H2 hi p y => ?_) (fun H1 p => ?_)
        · obtain ⟨rfl, ez⟩ := y
          obtain ⟨dz, e1, hz⟩ := dinAt (dinASame p.same hA) ez
          refine ⟨rfl, ?_⟩
          refine lcYes ?_
          refine ⟨_, rfl, z, dz, 0, 9, rfl, hz, ?_⟩
          exact p.push nD (fun _ _ _ _ _ h => h) (by omega) (Same.refl _) (by simp [e1])
        · obtain ⟨g, sm⟩ := madeBl (p := fun t => fromTo t 0 9) p (by omega)
          refine ⟨_, _, rfl, .of g, _, rfl, ?_⟩
          rw [allMap]
          have et : topsOk ds = ds.all fun t => fromTo t 0 9 := by
            have a1 : 1 ≤ ds.length := by omega
            have a2 : ds.length ≤ 3 := by omega
            simp [topsOk, a1, a2]
          rw [et] at q e
          cases ha : ds.all fun t => fromTo t 0 9 with
          | true => exact iteF (q ha _ sm)
          | false =>
            refine iteT ⟨_, rfl, by decide +kernel, .inr ⟨_, rfl, by decide +kernel, _, rfl, by decide +kernel, by show 1 ≤ sizeLine; decide, e ha _ sm⟩⟩
    · refine ⟨_, rfl, ?_⟩
      refine iteT ?_
      refine ⟨_, rfl, by decide +kernel, .inr ⟨_, rfl, by decide +kernel, _, rfl, by decide +kernel, _, rfl, by decide +kernel, by show 1 ≤ sizeLine; decide, ?_⟩⟩
      refine e ?_ _ (Same.refl _)
      have : ¬ 1 ≤ ds.length := by omega
      simp [topsOk, this]
  · refine ⟨_, rfl, _, _, rfl, dinTy hd, _, _, rfl, rfl, (dinTy hd).known, .lst, _, rfl, ?_⟩
    rw [decide_eq_false hty]
    refine iteT ?_
    refine ⟨_, rfl, by decide +kernel, .inr ⟨_, rfl, by decide +kernel, _, rfl, by decide +kernel, _, rfl, by decide +kernel, by show 1 ≤ sizeLine; decide, ?_⟩⟩
    exact e _ (Same.refl _)

end

end LW

namespace LW
open PySem PySem.Spec PyProof.Rows L2
local macro_rules | `(tactic| walk_at "go1") => `(tactic| first
  | refine ⟨_, rfl, ?_⟩
  | refine ⟨_, _, rfl, rfl, ?_⟩
  | refine ⟨show (0 : Int) < _ from by omega, ?_⟩
  | refine ⟨show CMul _ _ from by first | exact .inl ⟨by omega, by omega⟩ | exact .inr ⟨by omega, by omega⟩, ?_⟩
  | refine ⟨show CDiv _ _ from ⟨by omega, by omega⟩, ?_⟩)
local macro_rules | `(tactic| walk_at "go") => `(tactic| repeat walk_at "go1")

section
variable {P : Program} {w : World} {K : PySem.W.Frag} {mg : Str → Option Value} {base : Heap}

/-! ### a class of the program: its property, its methods, its making -/
structure CalP (P : Program) (w : World) (K : PySem.W.Frag) (mg : Str → Option Value) (base : Heap) (k : Nat) (C : Addr) (f : Str) (sp : Sp) : Prop where
  ex : ∃ (p g : Addr) (fd : FuncData) (ps : List Str), PropOf K C f p g ∧ FnOk P w K mg base CX0 k g fd ps sp ∧ Binds K fd ps []
structure CalM (P : Program) (w : World) (K : PySem.W.Frag) (mg : Str → Option Value) (base : Heap) (k : Nat) (C : Addr) (m : Str) (sp : Sp) : Prop where
  ex : ∃ (f : Addr) (fd : FuncData) (ps : List Str), Meth K C m f ∧ FnOk P w K mg base CX0 k f fd ps sp ∧ Binds K fd ps []
structure CalC (P : Program) (w : World) (K : PySem.W.Frag) (mg : Str → Option Value) (base : Heap) (k : Nat) (C : Addr) (x : Str) (sp : Sp) : Prop where
  ex : ∃ (f : Addr) (fd : FuncData) (ps : List Str), Mk K C f ∧ FnOk P w K mg base (L2.CX P w) k f fd ps sp ∧ Binds K fd ps [] ∧ mg x = some (.ref C)
theorem pP {X : Cx} {k j : Nat} {C : Addr} {f : Str} {sp : Sp} {e : Expr} {pos : Pos} {ta : TE} (c : CalP X.prog X.w X.K X.mg X.base k C f sp) (cl : Cls X.K C) (hr : Room j X.A) (hk : k + 1 ≤ j) (he : PE X e ta)
    (hab : attributeBase e f X.env (eval e X.env) = eval e X.env := by rfl) : PE X (.Attribute e f pos) (tProp C sp [] C8.E0 ta) := by
  obtain ⟨p, g, fd, ps, hp, F, b⟩ := c.ex
  exact pe_prop he cl hp F (hr.mono hk) b .nil pass0 hab
theorem pM {X : Cx} {k j : Nat} {C : Addr} {m : Str} {sp : Sp} {o e : Expr} {es : List Expr} {pos apos : Pos} {ta : TE} {t : TA} {pl : Sem Bool} (c : CalM X.prog X.w X.K X.mg X.base k C m sp) (cl : Cls X.K C) (hr : Room j X.A) (hk : k ≤ j) (he : PE X o ta) (ha : PA X (e :: es) t)
    (hst : starEach (e :: es) X.env = (false, eval e X.env) :: starEach es X.env := by rfl) (hpl : (backTo pos (starEach es X.env)).any (·.1) = false := by rfl)
    (ht : eval (.Call (.Attribute o m apos) (e :: es) [] pos) X.env = (do
      let ov ← eval o X.env
      standAt apos.atName
      let (f, first) ← holding [ov] (getMethod ov m pl)
      callWith pos f first (backTo pos (starEach (e :: es) X.env)) (backToKw pos (keywordEach [] X.env))) := by rfl) : PE X (.Call (.Attribute o m apos) (e :: es) [] pos) (tMeth C m sp [] C8.E0 ta t) := by
  obtain ⟨f, fd, ps, hm, F, b⟩ := c.ex
  exact pe_meth he cl hm F (hr.mono hk) b .nil pass0 ha hst hpl ht
theorem pM0 {X : Cx} {k j : Nat} {C : Addr} {m : Str} {sp : Sp} {o : Expr} {pos apos : Pos} {ta : TE} {pl : Sem Bool} (c : CalM X.prog X.w X.K X.mg X.base k C m sp) (cl : Cls X.K C) (hr : Room j X.A) (hk : k ≤ j) (he : PE X o ta)
    (ht : eval (.Call (.Attribute o m apos) [] [] pos) X.env = (do
      let ov ← eval o X.env
      standAt apos.atName
      let (f, first) ← holding [ov] (getMethod ov m pl)
      callWith pos f first (backTo pos (starEach [] X.env)) (backToKw pos (keywordEach [] X.env))) := by rfl) : PE X (.Call (.Attribute o m apos) [] [] pos) (tMeth C m sp [] C8.E0 ta tNil) := by
  obtain ⟨f, fd, ps, hm, F, b⟩ := c.ex
  exact pe_meth0 he cl hm F (hr.mono hk) b .nil pass0 ht
theorem pC {X : Cx} {k j : Nat} {C : Addr} {x : Str} {sp : Sp} {E : XK} {e : Expr} {es : List Expr} {p pos : Pos} {t : TA} (c : CalC X.prog X.w X.K X.mg X.base k C x sp) (hr : Room j X.A) (hk : k + 1 ≤ j) (hx : Passes (L2.CX X.prog X.w) X E) (ha : PA X (e :: es) t) (hg : Gl X x := by rfl)
    (hdb : (x == ("__debug__" : Str)) = false := by decide) (he : starEach (e :: es) X.env = (false, eval e X.env) :: starEach es X.env := by rfl) (hpl : (backTo pos (starEach es X.env)).any (·.1) = false := by rfl) :
    PE X (.Call (.Name x p) (e :: es) [] pos) (tMake C sp [] E t) := by
  obtain ⟨f, fd, ps, M, F, b, hm⟩ := c.ex
  exact pe_make M F (hr.mono hk) hg hm b .nil hx ha hdb he hpl
/-- an instance of Program -/
def PrIn (K : PySem.W.Frag) (H : Hp) (C x : Addr) (tops : List Int) (rv : V) : Prop := ∃ dx t, H x = some (.ins C dx [("_tops", .ref t), ("rows", rv)]) ∧ SqT K H t (tops.map V.int)
theorem prSame {K : PySem.W.Frag} {H H' : Hp} {C x : Addr} {tops : List Int} {rv : V} (e : Same H H') (h : PrIn K H C x tops rv) : PrIn K H' C x tops rv := by
  obtain ⟨dx, t, h1, h2⟩ := h
  exact ⟨dx, t, e _ _ h1, tupS e h2⟩
/-- the class -/
structure ClsP (K : PySem.W.Frag) (C : Addr) : Prop where
  cl : Cls K C
  n1 : NoAttr K C "_tops"
  n2 : NoAttr K C "rows"
abbrev s_Program___init__ : Stmt := inClass (topS 13) 0
theorem sc_Program___init__ : FnScope ["self", "tops", "rows"] ["self", "tops", "rows"] (defScope s_Program___init__) := ⟨rfl, rfl, rfl, by decide +kernel, rfl, by decide +kernel, by decide +kernel⟩

def spInit (K : PySem.W.Frag) (C CB : Addr) : Sp := fun vs H Q E => ∃ (x dx : Addr) (tv rv : V), vs = [.ref x, tv, rv] ∧ H x = some (.ins C dx []) ∧
  (((∃ d, Din K H tv d ∧ d.ty ≠ "list") ∧ (∀ H', Same H H' → E (.ref CB) none H')) ∨
   ∃ (a : Addr) (xs : List V) (ds : List D), tv = .ref a ∧ SqL K H a xs ∧ DinA K H xs ds ∧ (topsOk ds = false → ∀ H', Same H H' → E (.ref CB) none H') ∧
     (topsOk ds = true → ∃ d, Din K H rv d ∧ (chk ds.length 4 d = none → ∀ H', Same H H' → E (.ref CB) none H') ∧
       (∀ n, chk ds.length 4 d = some n → ∀ (H' : Hp) (t : Addr), (∀ b o, b ≠ x → H b = some o → H' b = some o) → H' x = some (.ins C dx [("_tops", .ref t), ("rows", rv)]) → SqT K H' t xs → Q .non H')))
theorem putTwo {a b : V} : putF "rows" b (putF "_tops" a []) = ([(("_tops" : Str), a), (("rows" : Str), b)] : List (Str × V)) := by
  have h : ¬ (("_tops" : Str) = "rows") := by decide +kernel
  simp [putF, h]
theorem ok_init {f C CB : Addr} {fd : FuncData} {k : Nat} (F : Fun K "__init__" "Program.__init__" s_Program___init__ f fd) (B : Bl mg) (cp : ClsP K C) (c__check_tops : CalX P w K mg base k "_check_tops" (spTops K CB)) (c__check_rows : CalX P w K mg base k "_check_rows" (spRows K CB 5)) :
    FnOk P w K mg base (L2.CX P w) (k + 1) f fd ["self", "tops", "rows"] (spInit K C CB) := by
  refine F.okX sc_Program___init__ (fun vs H Q E h => ?_) (fun cdv A outer s H vs Q E hr h => ?_)
  · obtain ⟨x, dx, tv, rv, rfl, _⟩ := h
    rfl
  obtain ⟨x, dx, tv, rv, rfl, hx, h⟩ := h
  refine ⟨_, (pss_cons (ps_expr (cX c__check_tops hr (Nat.le_refl _) (by rfl) (passes_call (takes_of rfl rfl rfl rfl) (fun _ _ _ _ h => h)) (pa_cons (pv 1) pa_nil)))
    (pss_cons (ps_expr (cX c__check_rows hr (Nat.le_refl _) (by rfl) (passes_call (takes_of rfl rfl rfl rfl) (fun _ _ _ _ h => h)) (pa_cons (pv 2) (pa_cons (pe_callB (kLen (K := K) rfl) (by rfl) B.len PySem.boot_len (pa_cons (pv 1) pa_nil)) (pa_cons pe_int pa_nil)))))
    (pss_cons (ps_fld (pv 0) (pe_callTy (kTup (K := K) rfl) (by rfl) B.tuple (by decide +kernel) (pa_cons (pv 1) pa_nil)) rfl)
    (pss_one (ps_fld (pv 0) (pv 2) rfl))))), ?_⟩
  rcases h with ⟨⟨d, hd, ty⟩, e⟩ | ⟨a, xs, ds, rfl, hL, hA, e0, hq⟩
  · exact ⟨_, rfl, tv, rfl, .inr ⟨d, hd, ty, e⟩⟩
  refine ⟨_, rfl, .ref a, rfl, .inl ⟨a, xs, ds, rfl, hL, hA, fun hto H1 s1 => ?_, e0⟩⟩
  obtain ⟨d, hd, e, q⟩ := hq hto
  have l3 : ds.length ≤ 3 := by
    simp only [topsOk, Bool.and_eq_true, decide_eq_true_eq] at hto
    exact hto.1.2
  have lA := hA.len
  refine ⟨_, rfl, _, rfl, _, _, rfl, .inl (Same.seq s1 hL), rv, d, ds.length, 0, by rw [lA]; rfl, dinSame s1 hd, by omega, by decide, by decide, fun n hn H2 s2 => ?_, fun hno H2 s2 => e hno _ (Same.trans s1 s2)⟩
  have s12 := Same.trans s1 s2
  refine ⟨_, rfl, _, _, rfl, .inl ⟨Same.seq s12 hL, fun T nT => ?_⟩⟩
  have hx3 := sameNew (o := .tup xs) nT _ _ (s12 _ _ hx)
  refine ⟨_, rfl, x, C, dx, _, rfl, hx3, cp.cl, cp.n1, by decide, ?_⟩
  refine ⟨_, rfl, _, rfl, x, C, dx, _, rfl, upd_same, cp.cl, cp.n2, by simp [putF], ?_⟩
  rw [putTwo]
  have hne : T ≠ x := fun z => by rw [z, s12 _ _ hx] at nT; cases nT
  refine q n hn _ T (fun b o hb ho => ?_) upd_same (.of ?_)
  · rw [upd_ne hb, upd_ne hb]
    exact sameNew nT _ _ (s12 _ _ ho)
  · rw [upd_ne hne, upd_ne hne, upd_same]
abbrev s_Program_tops : Stmt := inClass (topS 13) 1
theorem sc_Program_tops : FnScope ["self"] ["self"] (defScope s_Program_tops) := ⟨rfl, rfl, rfl, by decide +kernel, rfl, by decide +kernel, by decide +kernel⟩

def spTopsP (K : PySem.W.Frag) (C : Addr) : Sp := fun vs H Q _ => ∃ (x : Addr) (tops : List Int) (rv : V), vs = [.ref x] ∧ PrIn K H C x tops rv ∧ ∀ (l : Addr) (H' : Hp), H l = none → Same H H' → H' l = some (.lst (tops.map V.int)) → Q (.ref l) H'
theorem ok_tops {f C : Addr} {fd : FuncData} {k : Nat} (F : Fun K "tops" "Program.tops" s_Program_tops f fd) (B : Bl mg) (cp : ClsP K C) : FnOk P w K mg base CX0 (k + 1) f fd ["self"] (spTopsP K C) := by
  refine F.ok sc_Program_tops (fun vs H Q E h => ?_) (fun cdv A outer s H vs Q E hr h => ?_)
  · obtain ⟨x, tops, rv, rfl, _⟩ := h
    rfl
  obtain ⟨x, tops, rv, rfl, ⟨dx, t, hx, ht⟩, q⟩ := h
  refine ⟨_, (pss_one (ps_ret (pe_callTy (kList (K := K) rfl) (by rfl) B.list (by decide +kernel) (pa_cons (pe_fld (pv 0) rfl) pa_nil)))), ?_⟩
  exact ⟨_, rfl, x, C, dx, _, _, rfl, hx, cp.cl, cp.n1, rfl, _, _, rfl, .inr ht, fun l nl => q l _ nl (sameNew nl) upd_same⟩
def okF (fs ts : List Int) : Bool := (List.range ts.length).all fun k => decide (0 ≤ fs[k]?.getD 0) && decide (fs[k]?.getD 0 ≤ ts[k]?.getD 0)
abbrev s_is_filling : Stmt := topS 14
theorem sc_is_filling : FnScope ["program", "filling", "held"] ["program", "filling"] (defScope s_is_filling) := ⟨rfl, rfl, rfl, by decide +kernel, rfl, by decide +kernel, by decide +kernel⟩

def isIntV : V → Bool
  | .int _ => true
  | _ => false
theorem tyInt {H : Hp} {v : V} {n : String} (h : TyN K H v n) : decide (n = "int") = isIntV v := by
  cases h <;> first | rfl | exact decide_eq_false (by decide)
theorem allInts : ∀ {xs : List V}, xs.all isIntV = true → ∃ fs : List Int, xs = fs.map V.int
  | [], _ => ⟨[], rfl⟩
  | x :: r, h => by
    rw [List.all_cons, Bool.and_eq_true] at h
    obtain ⟨fs, e⟩ := allInts h.2
    cases x with
    | int i => exact ⟨i :: fs, by rw [e]; rfl⟩
    | _ => exact absurd h.1 (by simp [isIntV])
theorem intsAll (fs : List Int) : (fs.map V.int).all isIntV = true := by
  induction fs with
  | nil => rfl
  | cons x r ih => rw [List.map_cons, List.all_cons, ih]; rfl
/-- what is handed in as a filling: a list, or of another kind -/
def FlArg (K : PySem.W.Frag) (H : Hp) (v : V) (xs : Option (List V)) : Prop := match xs with
  | none => ∃ n, TyN K H v n ∧ n ≠ "list"
  | some xs => ∃ fa, v = .ref fa ∧ SqL K H fa xs ∧ (∀ x ∈ xs, ∃ n, TyN K H x n) ∧ xs.length ≤ 1000
def isFl (tops : List Int) : Option (List V) → Bool
  | none => false
  | some xs => decide (xs.length = tops.length) && xs.all isIntV
theorem FlArg.ints {H : Hp} {fa : Addr} {fs : List Int} (h : SqL K H fa (fs.map V.int)) (l : fs.length ≤ 1000) : FlArg K H (.ref fa) (some (fs.map V.int)) :=
  ⟨fa, rfl, h, fun x hx => by
    obtain ⟨i, _, rfl⟩ := List.mem_map.mp hx
    exact ⟨_, .int i⟩, by rw [List.length_map]; exact l⟩
theorem tyNS {H H' : Hp} {x : V} {n : String} (e : Same H H') (h : TyN K H x n) : TyN K H' x n := by
  cases h with
  | non => exact .non
  | bl b => exact .bl b
  | int i => exact .int i
  | str s => exact .str s
  | lst h => exact .lst (Same.seq e h)
  | tup h => exact .tup (tupS e h)
  | dct h => exact .dct (e _ _ h)
theorem FlArg.mono {H H' : Hp} {v : V} {xs : Option (List V)} (e : Same H H') (h : FlArg K H v xs) : FlArg K H' v xs := by
  cases xs with
  | none =>
    obtain ⟨n, h, ne⟩ := h
    exact ⟨n, tyNS e h, ne⟩
  | some xs =>
    obtain ⟨fa, e1, h1, h2, h3⟩ := h
    exact ⟨fa, e1, Same.seq e h1, fun x hx => (h2 x hx).imp fun _ => tyNS e, h3⟩
def spFill (K : PySem.W.Frag) (C : Addr) : Sp := fun vs H Q _ => ∃ (x : Addr) (v : V) (tops : List Int) (rv : V) (xs : Option (List V)), vs = [.ref x, v] ∧ PrIn K H C x tops rv ∧ FlArg K H v xs ∧ tops.length ≤ 1000 ∧ ∀ H', Same H H' → Q (.bl (isFl tops xs)) H'
theorem ok_is_filling {f C : Addr} {fd : FuncData} {k : Nat} (F : Fun K "is_filling" "is_filling" s_is_filling f fd) (B : Bl mg) (qcl : Cls K C) (q_tops : CalP P w K mg base k C "tops" (spTopsP K C)) : FnOk P w K mg base CX0 (k + 2) f fd ["program", "filling"] (spFill K C) := by
  refine F.ok sc_is_filling (fun vs H Q E h => ?_) (fun cdv A outer s H vs Q E hr h => ?_)
  · obtain ⟨x, v, tops, rv, xs, rfl, _⟩ := h
    rfl
  obtain ⟨x, v, tops, rv, xs, rfl, hp, hv, hz, q⟩ := h
  refine ⟨_, (pss_cons (ps_if (PW.pt (pw_or (pt_cmpR kNeTy (pe_callTy (kType (K := K) rfl) (by rfl) B.type (by decide +kernel) (pa_cons (pv 1) pa_nil)) (pe_bltn (v := .ty "list") (by rfl) B.list (by decide +kernel) rfl) (nomark _)) (pw_or1 (pt_cmpR op_ne (pe_callB (kLen (K := K) rfl) (by rfl) B.len PySem.boot_len (pa_cons (pv 1) pa_nil)) (pe_callB (kLen (K := K) rfl) (by rfl) B.len PySem.boot_len (pa_cons (pP q_tops qcl hr (by omega) (pv 0)) pa_nil)) (nomark _)))))
      (pss_one (ps_ret pe_bl))
      pss_nil)
    (pss_one (ps_ret (pe_callB (kAll (K := K) rfl rfl) (by rfl) B.all (by decide +kernel) (pa_cons (pe_lc (own := [("held", 2)]) rfl sc_is_filling.nd (kList_ (K := K) rfl (pv 1)) (blkOk_by (own := [("held", 2)]) (N := ["program", "filling", "held"]) (sc := defScope s_is_filling) (by decide +kernel)) (fun _ _ _ _ _ => (pgN (i := 2) sc_is_filling.nd rfl (.inl rfl) (.inr rfl))) (fun _ _ _ _ _ => pts_nil) (fun _ _ _ _ _ => (pe_cmpR kEqTy (pe_callTy (kType (K := K) rfl) (by rfl) B.type (by decide +kernel) (pa_cons (pv 2) pa_nil)) (pe_bltn (v := .ty "int") (by rfl) B.int (by decide +kernel) rfl) (nomark _)))) pa_nil))))), ?_⟩
  cases xs with
  | none =>
    obtain ⟨n, hn, ne⟩ := hv
    refine ⟨_, rfl, _, _, rfl, hn, _, _, rfl, rfl, hn.known, .lst, _, rfl, ?_⟩
    rw [decide_eq_false ne]
    refine iteT ?_
    exact q _ (Same.refl _)
  | some xs =>
    obtain ⟨fa, rfl, hF, hty, lx⟩ := hv
    refine ⟨_, rfl, _, _, rfl, .lst hF, _, _, rfl, rfl, .lst, .lst, _, rfl, ?_⟩
    rw [decide_eq_true rfl]
    refine iteF ?_
    obtain ⟨dx, t, hx, ht⟩ := id hp
    refine ⟨_, rfl, _, _, rfl, .inl hF, _, rfl, x, dx, _, rfl, hx, x, tops, rv, rfl, hp, fun l H1 nl s1 hl1 => ?_⟩
    have hF1 := Same.seq s1 hF
    refine ⟨_, _, rfl, .inl (.of hl1), rfl, _, rfl, ?_⟩
    refine notDec (fun c => ?_) (fun c => ?_)
    · have e : xs.length ≠ tops.length := fun e => c (by rw [e, List.length_map])
      have q' := q _ s1
      rw [show isFl tops (some xs) = false by simp [isFl, e]] at q'
      exact q'
    have el : xs.length = tops.length := by
      have c : V.int (xs.length : Nat) = V.int ((tops.map V.int).length : Nat) := c
      injection c with c
      rw [List.length_map] at c
      omega
    refine ⟨_, rfl, _, rfl, ⟨_, hF1⟩, fun D nD => ?_⟩
    refine lc_it (walk_list (xs := xs)) (Made H1 D (fun i y _ => y = .bl ((xs[i]?.map isIntV).getD false))) (made0 nD) (fun i H2 _ p => Same.seq p.same hF1) (fun i y H2 H3 hi p z => ?_) (fun H2 p => ?_)
    · obtain ⟨rfl, ex⟩ := z
      obtain ⟨n, hn⟩ := hty y (List.mem_of_getElem? ex)
      refine ⟨rfl, ?_⟩
      refine lcYes ?_
      refine ⟨_, rfl, _, _, rfl, tyNS (Same.trans s1 p.same) hn, _, _, rfl, rfl, hn.known, .int, ?_⟩
      exact p.push nD (fun _ _ _ _ _ h => h) (by omega) (Same.refl _) (by rw [tyInt hn]; simp [ex])
    · obtain ⟨g, sm⟩ := madeBl (p := isIntV) p rfl
      refine ⟨_, _, rfl, .of g, ?_⟩
      rw [allMap]
      have q' := q _ (Same.trans s1 sm)
      rw [show isFl tops (some xs) = xs.all isIntV by simp [isFl, el]] at q'
      exact q'
abbrev s_is_within : Stmt := topS 15
theorem sc_is_within : FnScope ["program", "filling", "held", "top"] ["program", "filling"] (defScope s_is_within) := ⟨rfl, rfl, rfl, by decide +kernel, rfl, by decide +kernel, by decide +kernel⟩

/-- what it tells -/
def isWi (tops : List Int) (xs : Option (List V)) : Bool := isFl tops xs && match xs with
  | none => false
  | some xs => okF (xs.map fun v => match v with | .int i => i | _ => 0) tops
theorem isWi_ints {tops fs : List Int} : isWi tops (some (fs.map V.int)) = (decide (fs.length = tops.length) && okF fs tops) := by
  show (decide ((fs.map V.int).length = tops.length) && (fs.map V.int).all isIntV && okF ((fs.map V.int).map fun v => match v with | .int i => i | _ => 0) tops) = _
  rw [intsAll, Bool.and_true, List.length_map, List.map_map]
  congr 2
  exact (List.map_id _)
def spWIg (K : PySem.W.Frag) (C : Addr) : Sp := fun vs H Q _ => ∃ (x : Addr) (v : V) (tops : List Int) (rv : V) (xs : Option (List V)), vs = [.ref x, v] ∧ PrIn K H C x tops rv ∧ FlArg K H v xs ∧ tops.length ≤ 1000 ∧ ∀ H', Same H H' → Q (.bl (isWi tops xs)) H'
def spWI (K : PySem.W.Frag) (C : Addr) : Sp := fun vs H Q _ => ∃ (x fa : Addr) (tops fs : List Int) (rv : V), vs = [.ref x, .ref fa] ∧ PrIn K H C x tops rv ∧ SqL K H fa (fs.map V.int) ∧ fs.length = tops.length ∧ tops.length ≤ 1000 ∧ ∀ H', Same H H' → Q (.bl (okF fs tops)) H'
theorem wi_weak {C : Addr} (vs : List V) (H : Hp) (Q : VK) (E : XK) (h : spWI K C vs H Q E) : spWIg K C vs H Q E := by
  obtain ⟨x, fa, tops, fs, rv, e, hp, hF, hl, hz, q⟩ := h
  refine ⟨x, .ref fa, tops, rv, some (fs.map V.int), e, hp, FlArg.ints hF (by omega), hz, fun H' s => ?_⟩
  rw [isWi_ints, decide_eq_true hl, Bool.true_and]
  exact q H' s
theorem fnWeak {CX : CXT} {k : Nat} {f : Addr} {fd : FuncData} {ps : List Str} {sp sp' : Sp} (F : FnOk P w K mg base CX k f fd ps sp) (h : ∀ vs H Q E, sp' vs H Q E → sp vs H Q E) : FnOk P w K mg base CX k f fd ps sp' :=
  ⟨fun vs H Q E z => F.1 vs H Q E (h vs H Q E z), fun A outer s H args us vs Q E hr he hb hv z => F.2 A outer s H args us vs Q E hr he hb hv (h vs H Q E z)⟩
theorem ok_is_within {f C : Addr} {fd : FuncData} {k : Nat} (F : Fun K "is_within" "is_within" s_is_within f fd) (B : Bl mg) (qcl : Cls K C) (q_tops : CalP P w K mg base (k + 1) C "tops" (spTopsP K C)) (c_is_filling : C8.Cal P w K mg base (k + 2) "is_filling" (spFill K C) []) : FnOk P w K mg base CX0 (k + 3) f fd ["program", "filling"] (spWIg K C) := by
  refine F.ok sc_is_within (fun vs H Q E h => ?_) (fun cdv A outer s H vs Q E hr h => ?_)
  · obtain ⟨x, v, tops, rv, xs, rfl, _⟩ := h
    rfl
  obtain ⟨x, v, tops, rv, xs, rfl, hp, hv, hz, q⟩ := h
  refine ⟨_, (pss_cons (ps_if (pt_not (pt_val (C8.pe_c c_is_filling hr (Nat.le_refl _) (by rfl) (pa_cons (pv 0) (pa_cons (pv 1) pa_nil)))))
      (pss_one (ps_ret pe_bl))
      pss_nil)
    (pss_one (ps_ret (pe_callB (kAll (K := K) rfl rfl) (by rfl) B.all (by decide +kernel) (pa_cons (pe_lc (own := [("held", 2), ("top", 3)]) rfl sc_is_within.nd (kZ (K := K) rfl false false (by rfl) B.zip (pa_cons (pv 1) (pa_cons (pP q_tops qcl hr (by omega) (pv 0)) pa_nil))) (blkOk_by (own := [("held", 2), ("top", 3)]) (N := ["program", "filling", "held", "top"]) (sc := defScope s_is_within) (by decide +kernel)) (fun _ _ _ _ _ => (pgT2 (K := K) rfl (pgN (i := 2) sc_is_within.nd rfl (.inl rfl) (.inr rfl)) (pgN (i := 3) sc_is_within.nd rfl (.inl rfl) (.inr rfl)) rfl (by rfl) (by rfl) (by rfl) (by rfl))) (fun _ _ _ _ _ => pts_nil) (fun _ _ _ _ _ => (pe_chain op_le op_le pe_int (pv 2) (pv 3)))) pa_nil))))), ?_⟩
  refine ⟨_, rfl, _, rfl, x, v, tops, rv, xs, rfl, hp, hv, hz, fun H1 s1 => ?_⟩
  have q' : isFl tops xs = false → ∀ H', Same H H' → Q (.bl false) H' := fun e H' s => by
    have := q H' s
    rw [show isWi tops xs = false by unfold isWi; rw [e]; rfl] at this
    exact this
  cases hi : isFl tops xs with
  | false =>
    rw [hi] at q'
    refine ⟨_, rfl, iteT ?_⟩
    exact q' rfl _ s1
  | true =>
    cases xs with
    | none => cases hi
    | some xs =>
    have hi' := hi
    simp only [isFl, Bool.and_eq_true, decide_eq_true_eq] at hi'
    obtain ⟨hl, ha⟩ := hi'
    obtain ⟨fs, rfl⟩ := allInts ha
    rw [List.length_map] at hl
    rw [isWi_ints, decide_eq_true hl, Bool.true_and] at q
    obtain ⟨fa, rfl, hF, hty, lx⟩ := hv
    refine ⟨_, rfl, iteF ?_⟩
    obtain ⟨dx, t, hx, ht⟩ := id hp
    have hx1 := s1 _ _ hx
    have hp1 : PrIn K H1 C x tops rv := ⟨dx, t, hx1, tupS s1 ht⟩
    refine ⟨_, rfl, _, rfl, x, dx, _, rfl, hx1, x, tops, rv, rfl, hp1, fun l H2 nl s2 hl2 => ?_⟩
    have hF2 := Same.seq (Same.trans s1 s2) hF
    refine ⟨_, _, _, _, rfl, hF2, .of hl2, fun D nD => ?_⟩
    refine lc_it (walkZ (n := fs.length) (by simp [hl])) (Made H2 D (fun i y _ => y = .bl (((List.range tops.length)[i]?.map fun k => decide (0 ≤ fs[k]?.getD 0) && decide (fs[k]?.getD 0 ≤ tops[k]?.getD 0)).getD false))) (made0 nD) (fun i H1 _ p => ⟨Same.seq p.same hF2, .of (p.same _ _ hl2)⟩) (fun i x H2 H3 hi p y => ?_) (fun H3 p => ?_)
    · obtain ⟨T, x1, x2, rfl, nT, rfl, e1, e2⟩ := y
      have i1 : i < tops.length := by omega
      have f1 := mapAt e1 hi
      have f2 := mapAt e2 i1
      subst f1 f2
      refine ⟨_, _, rfl, .inl (.inl upd_same), rfl, _, _, rfl, _, _, rfl, rfl, rfl, ?_⟩
      refine lcYes ?_
      refine ⟨_, rfl, _, _, rfl, rfl, _, rfl, ?_⟩
      have go := fun b (eb : b = (decide (0 ≤ fs[i]) && decide (fs[i] ≤ tops[i]))) => p.push nD (fun _ _ _ _ _ h => h) (by omega) (sameNew (o := .tup [.int fs[i], .int tops[i]]) nT) (y := .bl b) (by simp [i1, hi, eb])
      refine ifB (fun c => ?_) (fun c => ?_)
      · refine ⟨_, rfl, _, _, rfl, rfl, ?_⟩
        exact go _ (by rw [c, Bool.true_and])
      · exact go _ (by rw [c, Bool.false_and])
    · obtain ⟨g, sm⟩ := madeBl (p := fun k => decide (0 ≤ fs[k]?.getD 0) && decide (fs[k]?.getD 0 ≤ tops[k]?.getD 0)) p (by simp [hl])
      refine ⟨_, _, rfl, .of g, ?_⟩
      rw [allMap]
      exact q _ (Same.trans s1 (Same.trans s2 sm))

end

end LW

namespace LW
open PySem PySem.Spec PyProof.Rows L2
local macro_rules | `(tactic| walk_at "go1") => `(tactic| first
  | refine ⟨_, rfl, ?_⟩
  | refine ⟨_, _, rfl, rfl, ?_⟩
  | refine ⟨show (0 : Int) < _ from by omega, ?_⟩
  | refine ⟨show CMul _ _ from by first | exact .inl ⟨by omega, by omega⟩ | exact .inr ⟨by omega, by omega⟩, ?_⟩
  | refine ⟨show CDiv _ _ from ⟨by omega, by omega⟩, ?_⟩)
local macro_rules | `(tactic| walk_at "go") => `(tactic| repeat walk_at "go1")

section
variable {P : Program} {w : World} {K : PySem.W.Frag} {mg : Str → Option Value} {base : Heap}

def isLp (d : D) : Bool := match d with
  | .tup (.str k :: _) => decide (k = "loop")
  | _ => false
def loP (ps : List Pd) : List (List Nat) := (ps.filter fun p => isLp p.2).map (·.1)
theorem loP_app (a b : List Pd) : loP (a ++ b) = loP a ++ loP b := by simp [loP]
theorem loP_len (a : List Pd) : (loP a).length ≤ a.length := by
  simp only [loP, List.length_map]
  exact List.length_filter_le _ _
theorem loP_one {p : List Nat} {d : D} (h : isLp d = true) : loP [(p, d)] = [p] := by simp [loP, h]
theorem loP_no {p : List Nat} {d : D} (h : isLp d = false) : loP [(p, d)] = [] := by simp [loP, h]
def PlcIn (K : PySem.W.Frag) (H : Hp) (v : V) (p : List Nat) : Prop := ∃ pa, v = .ref pa ∧ SqT K H pa (nats p)
theorem plcTS {K : PySem.W.Frag} {H H' : Hp} {vs : List V} {ps : List (List Nat)} (e : TS H H') (h : A2 (PlcIn K H) vs ps) : A2 (PlcIn K H') vs ps :=
  A2.map (B' := ps) (fun v p _ ⟨pa, e0, h1⟩ => ⟨pa, e0, tsTup e h1⟩) (fun _ m => m) h
theorem cntIn {r : Nat} {d x : D} (m : x ∈ inner d) : cnt r x ≤ cntRow r d := by
  have key : ∀ l : List D, x ∈ l → cnt r x ≤ (l.map (cnt r)).sum := by
    intro l
    induction l with
    | nil => intro m; cases m
    | cons y t ih =>
      intro m
      rw [List.map_cons, List.sum_cons]
      rcases List.mem_cons.mp m with e | m
      · subst e; omega
      · have := ih m; omega
  have := key _ m
  unfold cntRow
  omega
theorem innerPure {many r : Nat} {d x : D} (g : GRow many r d) (m : x ∈ inner d) : ∃ r' rs, r = r' + 1 ∧ x = .tup rs ∧ ∀ y ∈ rs, GRow many r' y := by
  rcases gKinds g with ⟨b, s, rfl⟩ | ⟨w, rfl⟩ | ⟨r2, w, a, b, e, rfl, ga, gb⟩ | ⟨r2, w, ws, b, e, rfl, gb⟩
  · rw [in_put] at m; cases m
  · rw [in_say] at m; cases m
  · rw [in_if] at m
    rcases List.mem_cons.mp m with e2 | e2
    · exact ⟨r2, a, e, e2, ga⟩
    · exact ⟨r2, b, e, List.mem_singleton.mp e2, gb⟩
  · rw [in_loop] at m
    exact ⟨r2, b, e, List.mem_singleton.mp m, gb⟩
theorem rowsPure {many r : Nat} {rs : List D} (h : ∀ y ∈ rs, GRow many r y) : D.pures rs = true := pures_of fun d hd => (h d hd).2.1
def spLo (K : PySem.W.Frag) (i : Nat) : Sp := fun vs H Q _ => ∃ (many : Nat) (a b : Addr) (xs : List V) (rows : List D) (ahead : List Nat), vs = [.ref a, .ref b] ∧ SqT K H a xs ∧ DinA K H xs rows ∧ SqT K H b (nats ahead) ∧ (∀ d ∈ rows, ∃ r, i = r + 1 ∧ GRow many r d) ∧ 1 ≤ i ∧ ahead.length ≤ 100 - 2 * i ∧ 2 * i ≤ 100 ∧ cnt i (.tup rows) ≤ 1000 ∧
  ∀ (p : Addr) (H' : Hp) (us : List V), H p = none → Same H H' → H' p = some (.lst us) → A2 (PlcIn K H') us (loP (plD i rows ahead)) → Q (.ref p) H'
abbrev s__loops_among : Stmt := topS 17
theorem sc__loops_among : FnScope ["rows", "ahead", "found", "number", "row", "place", "which", "inner"] ["rows", "ahead"] (defScope s__loops_among) := ⟨rfl, rfl, rfl, by decide +kernel, rfl, by decide +kernel, by decide +kernel⟩

theorem ok__loops_among {f : Addr} {fd : FuncData} {k i : Nat} (F : Fun K "_loops_among" "_loops_among" s__loops_among f fd) (B : Bl mg) (c_rows_within : C8.Cal P w K mg base k "rows_within" (spWithin K) []) (c__loops_among : C8.Cal P w K mg base k "_loops_among" (spLo K i) []) : FnOk P w K mg base CX0 (k + 1) f fd ["rows", "ahead"] (spLo K (i + 1)) := by
  refine F.ok sc__loops_among (fun vs H Q E h => ?_) (fun cdv A outer s H vs Q E hr h => ?_)
  · obtain ⟨many, a, b, xs, rows, ahead, rfl, _⟩ := h
    rfl
  obtain ⟨many, a, b, xs, rows, ahead, rfl, hT, hA, hB, hg, hi1, hl, h2i, hc, q⟩ := h
  refine ⟨_, (pss_cons (ps_set (i := 2) sc__loops_among.nd rfl (.inl rfl) (pe_lst pa_nil))
    (pss_cons (ps_for PassesOwn.never rfl (kE (K := K) rfl true (by rfl) B.enumerate (pa_cons (pv 0) pa_nil)) (kT2 (K := K) rfl rfl (pg_name (i := 3) sc__loops_among.nd rfl (.inl rfl)) (pg_name (i := 4) sc__loops_among.nd rfl (.inl rfl)))
      (pss_cons (ps_set (i := 5) sc__loops_among.nd rfl (.inl rfl) (pe_op (kCatT (K := K) rfl) (pv 1) (pe_tup (pa_cons (pv 3) pa_nil))))
      (C8.pss_cut (ps_if (pt_cmpR op_eq (pe_ix (kIxT (K := K) rfl) (pv 4) pe_int (fun _ _ => rfl)) pe_str (nomark _))
        (pss_one (ps_expr (pe_bm PySem.F.plainAttrs_list PySem.F.slot_list_append PySem.F.type_list_append mt_append (pv 2) (pa_cons (pv 5) pa_nil))))
        pss_nil)
      (pss_one (ps_for PassesOwn.never rfl (kE (K := K) rfl true (by rfl) B.enumerate (pa_cons (C8.pe_c c_rows_within hr (Nat.le_refl _) (by rfl) (pa_cons (pv 4) pa_nil)) pa_nil)) (kT2 (K := K) rfl rfl (pg_name (i := 6) sc__loops_among.nd rfl (.inl rfl)) (pg_name (i := 7) sc__loops_among.nd rfl (.inl rfl)))
        (pss_one (ps_expr (pe_bm PySem.F.plainAttrs_list PySem.F.slot_list_extend PySem.F.type_list_extend mt_extend (pv 2) (pa_cons (C8.pe_c c__loops_among hr (Nat.le_refl _) (by rfl) (pa_cons (pv 7) (pa_cons (pe_op (kCatT (K := K) rfl) (pv 5) (pe_tup (pa_cons (pv 6) pa_nil))) pa_nil))) pa_nil)))))))))
    (pss_one (ps_ret (pv 2))))), ?_⟩
  have szl : (100000 : Nat) ≤ sizeLine := by decide
  have hgr : ∀ d ∈ rows, GRow many i d := fun d hd => by
    obtain ⟨r, e, g⟩ := hg d hd
    have : r = i := by omega
    exact this ▸ g
  have lA := hA.len
  refine ⟨by show 0 ≤ sizeLine; decide, fun L nL => ?_⟩
  refine ⟨_, rfl, a, xs, rfl, tupS (sameNew nL) hT, ?_⟩
  refine for_it (walkE (xs := xs)) (fun j σ H' => ∃ (us : List V) (y3 y4 y5 y6 y7 : Option V), σ = [some (.ref a), some (.ref b), some (.ref L), y3, y4, y5, y6, y7] ∧ Same H H' ∧ H' L = some (.lst us) ∧ A2 (PlcIn K H') us (loP (plD (i + 1) (rows.take j) ahead)))
    ⟨[], none, none, none, none, none, rfl, sameNew nL, upd_same, by rw [List.take_zero]; exact .nil⟩ (fun j σ H' _ w => ?_) (fun j x σ H' H0' hj w y => ?_) (fun σ H' w => ?_)
  · obtain ⟨us, y3, y4, y5, y6, y7, rfl, sm, _⟩ := w
    exact tupS sm hT
  · obtain ⟨us, y3, y4, y5, y6, y7, rfl, sm, hL, hP⟩ := w
    obtain ⟨T, x1, x2, rfl, nT, rfl, e1, e2⟩ := y
    cases e1
    obtain ⟨d, ed, hd⟩ := dinAt hA e2
    have md : d ∈ rows := List.mem_of_getElem? ed
    have gd := hgr d md
    have hcm := cntMem (r := i) md
    refine ⟨_, _, rfl, .of upd_same, rfl, _, _, rfl, _, _, rfl, rfl, ?_⟩
    refine ⟨_, rfl, _, rfl, by show 1 ≤ sizeLine; decide, fun U nU => ?_⟩
    have sTU := Same.trans (sameNew (o := .tup [.int (j : Nat), x2]) nT) (sameNew (o := .tup [.int (j : Nat)]) nU)
    refine catUse (xs := nats ahead) (ys := [.int (j : Nat)]) (tupS (Same.trans sm sTU) hB) (.of upd_same) (by simp [nats]; omega) fun pl H2 s2 hpl => ?_
    have epl : nats ahead ++ [V.int (j : Nat)] = nats (ahead ++ [j]) := by simp [nats]
    rw [epl] at hpl
    have s02 := Same.trans sTU s2
    have sm2 : Same H H2 := Same.trans sm s02
    have hL2 : H2 L = some (.lst us) := s02 _ _ hL
    have hP2 := plcTS (tsOf s02) hP
    have lus : us.length ≤ 1000 := by
      have h1 := hP.len
      have h2 := loP_len (plD (i + 1) (rows.take j) ahead)
      have h3 := cntTake (r := i) (rows := rows) (j := j)
      rw [plLen] at h2
      omega
    have hd2 := dinSame sm2 hd
    clear hP hL nU nT s2 sTU
    obtain ⟨kd, rest, ek⟩ : ∃ kd rest, d = .tup (.str kd :: rest) := by
      rcases gKinds gd with ⟨b, s, rfl⟩ | ⟨w, rfl⟩ | ⟨r2, w, a, b, e, rfl, ga, gb⟩ | ⟨r2, w, ws, b, e, rfl, gb⟩ <;> exact ⟨_, _, rfl⟩
    have hdd := hd2
    rw [ek] at hdd
    cases hdd with
    | @tup ra _ _ hR hRA =>
    cases hRA with
    | cons h0 hA1 =>
    cases h0
    refine ⟨fun σ' H' => ∃ us' : List V, σ' = [some (.ref a), some (.ref b), some (.ref L), some (.int (j : Nat)), some (.ref ra), some (.ref pl), y6, y7] ∧ TS H2 H' ∧ Same H H' ∧ H' L = some (.lst us') ∧ us'.length ≤ 1001 ∧ A2 (PlcIn K H') us' (loP (plD (i + 1) (rows.take j) ahead ++ [(ahead ++ [j], d)])), ?_, ?_⟩
    · refine ⟨_, rfl, _, _, _, _, rfl, rfl, hR, atI_nat (j := 0) rfl, rfl, _, rfl, ?_⟩
      refine yesDec (fun c => ?_) (fun c => ?_)
      · refine ⟨_, rfl, .inl ⟨rfl, _, .of hL2⟩, _, rfl, L, us, _, rfl, rfl, hL2, by omega, us ++ [.ref pl], rfl, tsLst hL2, sameMut sm2 nL, upd_same, by simp; omega, ?_⟩
        rw [loP_app]
        refine (plcTS (tsLst hL2) hP2).app ?_
        have : isLp d = true := by rw [ek]; exact decide_eq_true (strEq.mp c)
        rw [loP_one this]
        exact .cons ⟨pl, rfl, tsTup (tsLst hL2) hpl⟩ .nil
      · refine ⟨us, rfl, TS.refl _, sm2, hL2, by omega, ?_⟩
        rw [loP_app]
        have : isLp d = false := by rw [ek]; exact decide_eq_false fun e => c (strEq.mpr e)
        rw [loP_no this, List.append_nil]
        exact hP2
    rintro σ' H3 ⟨us3, rfl, ts3, sm3, hL3, lus3, hP3⟩
    have hd3 : Din K H3 (.ref ra) d := dinSame sm3 hd
    have hpl3 := tsTup ts3 hpl
    refine ⟨_, rfl, .ref ra, d, many, rfl, hd3, gd.1, fun pw ws H4 npw s4 epw hws => ?_⟩
    refine ⟨pw, ws, rfl, .of epw, ?_⟩
    have lw := hws.len
    have sm4 := Same.trans sm3 s4
    have hpl4 := tupS s4 hpl3
    refine for_it (walkE (xs := ws)) (fun m σ H' => ∃ (us' : List V) (y6 y7 : Option V), σ = [some (.ref a), some (.ref b), some (.ref L), some (.int (j : Nat)), some (.ref ra), some (.ref pl), y6, y7] ∧ TS H4 H' ∧ Same H H' ∧ H' L = some (.lst us') ∧ us'.length ≤ 1001 + 1000 * m ∧
      A2 (PlcIn K H') us' (loP (plD (i + 1) (rows.take j) ahead ++ [(ahead ++ [j], d)] ++ ((inner d).take m).zipIdx.flatMap fun q => plD i (rowsOf q.1) (ahead ++ [j] ++ [q.2]))))
      ⟨us3, y6, y7, rfl, TS.refl _, sm4, s4 _ _ hL3, by omega, by simpa using plcTS (tsOf s4) hP3⟩ (fun m σ H' _ w => ?_) (fun m x σ H' H0' hm w y => ?_) (fun σ H' w => ?_)
    · obtain ⟨us', y6, y7, rfl, ts, _⟩ := w
      exact .of ((ts pw).1 ws epw)
    · obtain ⟨us', y6, y7, rfl, ts, sm5, hL5, lus5, hP5⟩ := w
      obtain ⟨T, z1, z2, rfl, nT, rfl, e3, e4⟩ := y
      cases e3
      obtain ⟨xi, exi, hxi⟩ := dinAt hws e4
      have mxi : xi ∈ inner d := List.mem_of_getElem? exi
      obtain ⟨r', rs, ei, rfl, grs⟩ := innerPure gd mxi
      have hpx : (D.tup rs).pure = true := by simpa [D.pure] using rowsPure grs
      have hxi5 := dinTS ts hpx hxi
      cases hxi5 with
      | @tup rx xr _ hxT hxA =>
      have hci := cntIn (r := i) mxi
      have li : (inner d).length ≤ 2 := by
        rcases gKinds gd with ⟨b, s, rfl⟩ | ⟨w, rfl⟩ | ⟨r2, w, a, b, e, rfl, ga, gb⟩ | ⟨r2, w, ws, b, e, rfl, gb⟩
        · rw [in_put]; decide
        · rw [in_say]; decide
        · rw [in_if]; simp
        · rw [in_loop]; simp
      refine ⟨_, _, rfl, .of upd_same, rfl, _, _, rfl, _, _, rfl, rfl, ?_⟩
      have sT := sameNew (o := .tup [.int (m : Nat), .ref rx]) nT
      refine ⟨_, rfl, .inl ⟨rfl, _, .of (sT _ _ hL5)⟩, _, rfl, _, rfl, _, rfl, by show 1 ≤ sizeLine; decide, fun U nU => ?_⟩
      have sTU := Same.trans sT (sameNew (o := .tup [.int (m : Nat)]) nU)
      refine catUse (xs := nats (ahead ++ [j])) (ys := [.int (m : Nat)]) (tupS sTU (tsTup ts hpl4)) (.of upd_same) (by simp [nats]; omega) fun p0 H6 s6 hp0 => ?_
      have e5 : nats (ahead ++ [j]) ++ [V.int (m : Nat)] = nats (ahead ++ [j] ++ [m]) := by simp [nats]
      rw [e5] at hp0
      have s56 := Same.trans sTU s6
      refine ⟨many, rx, p0, xr, rs, ahead ++ [j] ++ [m], rfl, tupS s56 hxT, dinASame s56 hxA, hp0, fun y hy => ⟨r', ei, grs y hy⟩, by omega, by simp; omega, by omega, by omega, fun c1 H7 us1 n1 s7 hc1 hP7 => ?_⟩
      have s57 := Same.trans s56 s7
      have lu1 : us1.length ≤ 1000 := by
        have h1 := hP7.len
        have h2 := loP_len (plD i rs (ahead ++ [j] ++ [m]))
        rw [plLen] at h2
        omega
      have hL7 := s57 _ _ hL5
      refine ⟨L, c1, us', us1, rfl, rfl, hL7, hc1, by omega, us' ++ us1, _, _, rfl, TS.trans ts (TS.trans (tsOf s57) (tsLst hL7)), sameMut (Same.trans sm5 s57) nL, upd_same, by simp; omega, ?_⟩
      rw [flatTake exi, ← List.append_assoc, loP_app]
      exact (plcTS (TS.trans (tsOf s57) (tsLst hL7)) hP5).app (plcTS (tsLst hL7) hP7)
    · obtain ⟨us', y6, y7, rfl, ts, sm5, hL5, lus5, hP5⟩ := w
      refine ⟨us', _, _, _, _, _, rfl, sm5, hL5, ?_⟩
      rw [lw, List.take_length] at hP5
      rw [plTake ed]
      simpa [plRow, List.append_assoc] using hP5
  · obtain ⟨us, y3, y4, y5, y6, y7, rfl, sm, hL, hP⟩ := w
    rw [lA, List.take_length] at hP
    exact ⟨_, rfl, q L H' us nL sm hL hP⟩
theorem lkRows {a b : V} : List.lookup ("rows" : Str) ([(("_tops" : Str), a), (("rows" : Str), b)] : List (Str × V)) = some b := by
  have h : (("rows" : Str) == "_tops") = false := by decide +kernel
  simp [List.lookup, h]
abbrev s_Program_loops : Stmt := inClass (topS 13) 3
theorem sc_Program_loops : FnScope ["self"] ["self"] (defScope s_Program_loops) := ⟨rfl, rfl, rfl, by decide +kernel, rfl, by decide +kernel, by decide +kernel⟩

def spLoops (K : PySem.W.Frag) (C : Addr) : Sp := fun vs H Q _ => ∃ (many : Nat) (x a : Addr) (tops : List Int) (xs : List V) (rows : List D), vs = [.ref x] ∧ PrIn K H C x tops (.ref a) ∧ SqT K H a xs ∧ DinA K H xs rows ∧ (∀ d ∈ rows, GRow many 3 d) ∧ cnt 4 (.tup rows) ≤ 1000 ∧
  ∀ (p : Addr) (H' : Hp) (us : List V), H p = none → Same H H' → H' p = some (.lst us) → A2 (PlcIn K H') us (loP (plD 4 rows [])) → Q (.ref p) H'
theorem ok_loops {f C : Addr} {fd : FuncData} {k : Nat} (F : Fun K "loops" "Program.loops" s_Program_loops f fd) (cp : ClsP K C) (c__loops_among : C8.Cal P w K mg base k "_loops_among" (spLo K 4) []) : FnOk P w K mg base CX0 (k + 1) f fd ["self"] (spLoops K C) := by
  refine F.ok sc_Program_loops (fun vs H Q E h => ?_) (fun cdv A outer s H vs Q E hr h => ?_)
  · obtain ⟨many, x, a, tops, xs, rows, rfl, _⟩ := h
    rfl
  obtain ⟨many, x, a, tops, xs, rows, rfl, ⟨dx, t, hx, ht⟩, hT, hA, hg, hc, q⟩ := h
  refine ⟨_, (pss_one (ps_ret (C8.pe_c c__loops_among hr (Nat.le_refl _) (by rfl) (pa_cons (pe_fld (pv 0) rfl) (pa_cons (pe_tup pa_nil) pa_nil))))), ?_⟩
  refine ⟨_, rfl, x, C, dx, _, _, rfl, hx, cp.cl, cp.n2, lkRows, by show 0 ≤ sizeLine; decide, fun Z nZ => ?_⟩
  exact ⟨many, a, Z, xs, rows, [], rfl, tupS (sameNew nZ) hT, dinASame (sameNew nZ) hA, .of upd_same, fun d hd => ⟨3, rfl, hg d hd⟩, by decide, by simp, by decide, hc, fun p H' us np sm hp hP => q p H' us (Same.free (sameNew nZ) np) (Same.trans (sameNew nZ) sm) hp hP⟩
theorem rgc2 : ∀ m : Nat, m < 60 → RgC 1 ((1 + 2 * m : Nat) : Int) 2 m := by
  unfold RgC
  decide +kernel
theorem look_even : ∀ {d d' : D} {p : List Nat}, look1 d p = some d' → ∃ m, p.length = 2 * m
  | _, _, [], _ => ⟨0, rfl⟩
  | _, _, [_], h => by cases h
  | d, d', w :: n :: rest, h => by
    simp only [look1] at h
    cases e1 : (inner d)[w]? with
    | none => rw [e1] at h; cases h
    | some x =>
      rw [e1] at h
      simp only [Option.bind_some] at h
      cases e2 : (rowsOf x)[n]? with
      | none => rw [e2] at h; cases h
      | some y =>
        rw [e2] at h
        obtain ⟨m, hm⟩ := look_even h
        exact ⟨m + 1, by simp [hm]; omega⟩
abbrev s_Program_row : Stmt := inClass (topS 13) 2
theorem sc_Program_row : FnScope ["self", "place", "found", "at"] ["self", "place"] (defScope s_Program_row) := ⟨rfl, rfl, rfl, by decide +kernel, rfl, by decide +kernel, by decide +kernel⟩

def spRowAt (K : PySem.W.Frag) (C : Addr) : Sp := fun vs H Q _ => ∃ (many : Nat) (x a pa : Addr) (tops : List Int) (xs : List V) (rows : List D) (p : List Nat) (d : D), vs = [.ref x, .ref pa] ∧ PrIn K H C x tops (.ref a) ∧ SqT K H a xs ∧ DinA K H xs rows ∧ (∀ d ∈ rows, GRow many 3 d) ∧ SqT K H pa (nats p) ∧ lookR rows p = some d ∧ p.length ≤ 100 ∧
  ∀ (H' : Hp) (v : V), Same H H' → Din K H' v d → Q v H'
theorem ok_row {f C : Addr} {fd : FuncData} {k : Nat} (F : Fun K "row" "Program.row" s_Program_row f fd) (B : Bl mg) (cp : ClsP K C) (c_rows_within : C8.Cal P w K mg base k "rows_within" (spWithin K) []) : FnOk P w K mg base CX0 (k + 1) f fd ["self", "place"] (spRowAt K C) := by
  refine F.ok sc_Program_row (fun vs H Q E h => ?_) (fun cdv A outer s H vs Q E hr h => ?_)
  · obtain ⟨many, x, a, pa, tops, xs, rows, p, d, rfl, _⟩ := h
    rfl
  obtain ⟨many, x, a, pa, tops, xs, rows, p, d, rfl, ⟨dx, t, hx, ht⟩, hT, hA, hg, hp, hl, hpl, q⟩ := h
  refine ⟨_, (pss_cons (ps_set (i := 2) sc_Program_row.nd rfl (.inl rfl) (pe_ix (kIxT (K := K) rfl) (pe_fld (pv 0) rfl) (pe_ix (kIxT (K := K) rfl) (pv 1) pe_int (fun _ _ => rfl)) (fun _ _ => rfl)))
    (pss_cons (ps_for PassesOwn.never rfl (pi_range3 (by rfl) B.range (pa_cons pe_int (pa_cons (pe_callB (kLen (K := K) rfl) (by rfl) B.len PySem.boot_len (pa_cons (pv 1) pa_nil)) (pa_cons pe_int pa_nil)))) (pg_name (i := 3) sc_Program_row.nd rfl (.inl rfl))
      (pss_one (ps_set (i := 2) sc_Program_row.nd rfl (.inl rfl) (pe_ix (kIxT (K := K) rfl) (pe_ix (kIxT (K := K) rfl) (C8.pe_c c_rows_within hr (Nat.le_refl _) (by rfl) (pa_cons (pv 2) pa_nil)) (pe_ix (kIxT (K := K) rfl) (pv 1) (pv 3) (fun _ _ => rfl)) (fun _ _ => rfl)) (pe_ix (kIxT (K := K) rfl) (pv 1) (pe_op op_add (pv 3) pe_int) (fun _ _ => rfl)) (fun _ _ => rfl)))))
    (pss_one (ps_ret (pv 2))))), ?_⟩
  cases p with
  | nil => cases hl
  | cons n rest =>
  obtain ⟨d0, ed0, hl1⟩ : ∃ d0, rows[n]? = some d0 ∧ look1 d0 rest = some d := by
    simp only [lookR] at hl
    cases e : rows[n]? with
    | none => rw [e] at hl; cases hl
    | some d0 => rw [e] at hl; exact ⟨d0, rfl, hl⟩
  obtain ⟨v0, ev0, hd0⟩ := dinAtD hA ed0
  obtain ⟨m, hm⟩ := look_even hl1
  refine ⟨_, rfl, x, C, dx, _, _, rfl, hx, cp.cl, cp.n2, lkRows, _, rfl, _, _, _, _, rfl, rfl, hp, atI_nat (j := 0) rfl, _, _, _, _, rfl, rfl, hT, atI_nat ev0, ?_⟩
  have ln : (nats (n :: rest)).length = 1 + 2 * m := by simp [nats, hm]; omega
  simp only [List.length_cons] at hpl
  refine ⟨_, rfl, _, _, rfl, .inr hp, 1, _, 2, m, rfl, by rw [ln]; exact rgc2 m (by omega), ?_⟩
  refine for_rangeC (lo := 1) (c := 2) (n := m) (fun i σ H' => ∃ (v : V) (di : D) (r : Nat) (y3 : Option V), σ = [some (.ref x), some (.ref pa), some v, y3] ∧ Same H H' ∧ Din K H' v di ∧ look1 di (rest.drop (2 * i)) = some d ∧ GRow many r di)
    ⟨v0, d0, 3, none, rfl, Same.refl _, hd0, by simpa using hl1, hg d0 (List.mem_of_getElem? ed0)⟩ (fun i σ H' hi w => ?_) (fun σ H' w => ?_)
  · obtain ⟨v, di, r, y3, rfl, sm, hv, hlk, gi⟩ := w
    obtain ⟨w', n', r', er⟩ : ∃ w' n' r', rest.drop (2 * i) = w' :: n' :: r' := by
      have : (rest.drop (2 * i)).length = 2 * (m - i) := by rw [List.length_drop, hm]; omega
      cases e : rest.drop (2 * i) with
      | nil => rw [e] at this; simp at this; omega
      | cons a t =>
        cases t with
        | nil => rw [e] at this; simp at this; omega
        | cons b t => exact ⟨a, b, t, rfl⟩
    rw [er] at hlk
    have g0 : rest[2 * i]? = some w' := by
      have := congrArg (fun l => l[0]?) er
      simpa using this
    have g1 : rest[2 * i + 1]? = some n' := by
      have := congrArg (fun l => l[1]?) er
      simpa using this
    obtain ⟨z, ez, hl2⟩ : ∃ z, (inner di)[w']? = some z ∧ ((rowsOf z)[n']?).bind (fun d' => look1 d' r') = some d := by
      simp only [look1] at hlk
      cases e : (inner di)[w']? with
      | none => rw [e] at hlk; cases hlk
      | some z => rw [e] at hlk; exact ⟨z, rfl, hlk⟩
    obtain ⟨r2, rs, e2, rfl, grs⟩ := innerPure gi (List.mem_of_getElem? ez)
    obtain ⟨d', ed', hl3⟩ : ∃ d', rs[n']? = some d' ∧ look1 d' r' = some d := by
      simp only [rowsOf] at hl2
      cases e : rs[n']? with
      | none => rw [e] at hl2; cases hl2
      | some d' => rw [e] at hl2; exact ⟨d', rfl, hl2⟩
    have a0 : (nats (n :: rest))[1 + 2 * i]? = some (.int (w' : Nat)) := natsAt (by rw [show 1 + 2 * i = 2 * i + 1 by omega, List.getElem?_cons_succ]; exact g0)
    have a1 : (nats (n :: rest))[1 + 2 * i + 1]? = some (.int (n' : Nat)) := natsAt (by rw [show 1 + 2 * i + 1 = (2 * i + 1) + 1 by omega, List.getElem?_cons_succ]; exact g1)
    refine ⟨_, rfl, v, di, many, rfl, hv, gi.1, fun pw ws H4 npw s4 epw hws => ?_⟩
    obtain ⟨vz, evz, hz⟩ := dinAtD hws ez
    cases hz with
    | @tup rz xz _ hzT hzA =>
    obtain ⟨vd, evd, hvd⟩ := dinAtD hzA ed'
    have hp4 := tupS (Same.trans sm s4) hp
    refine ⟨_, rfl, _, rfl, _, _, _, _, rfl, rfl, hp4, (by rw [show (1 : Int) + (i : Int) * 2 = ((1 + 2 * i : Nat) : Int) by omega]; exact atI_nat a0), _, _, _, _, rfl, rfl, .of epw, atI_nat evz, ?_⟩
    refine ⟨_, rfl, _, rfl, _, _, rfl, rfl, _, _, _, _, rfl, rfl, hp4, (by rw [show (1 : Int) + (i : Int) * 2 + 1 = ((1 + 2 * i + 1 : Nat) : Int) by omega]; exact atI_nat a1), _, _, _, _, rfl, rfl, hzT, atI_nat evd, ?_⟩
    refine ⟨vd, d', r2, _, rfl, Same.trans sm s4, hvd, ?_, grs d' (List.mem_of_getElem? ed')⟩
    have : rest.drop (2 * (i + 1)) = r' := by
      rw [show 2 * (i + 1) = 2 * i + 2 by omega, ← List.drop_drop, er]
      rfl
    rw [this]
    exact hl3
  · obtain ⟨v, di, r, y3, rfl, sm, hv, hlk, gi⟩ := w
    rw [List.drop_of_length_le (by omega)] at hlk
    cases hlk
    exact ⟨_, rfl, q H' v sm hv⟩

end

end LW

namespace LW
open PySem PySem.Spec PyProof.Rows L2
local macro_rules | `(tactic| walk_at "go1") => `(tactic| first
  | refine ⟨_, rfl, ?_⟩
  | refine ⟨_, _, rfl, rfl, ?_⟩
  | refine ⟨show (0 : Int) < _ from by omega, ?_⟩
  | refine ⟨show CMul _ _ from by first | exact .inl ⟨by omega, by omega⟩ | exact .inr ⟨by omega, by omega⟩, ?_⟩
  | refine ⟨show CDiv _ _ from ⟨by omega, by omega⟩, ?_⟩)
local macro_rules | `(tactic| walk_at "go") => `(tactic| repeat walk_at "go1")

section
variable {P : Program} {w : World} {K : PySem.W.Frag} {mg : Str → Option Value} {base : Heap}

theorem cutNeg {xs ys : List V} {n : Nat} (hl : ys.length = n + 1) : cutV (xs ++ ys) none (some (-((n + 1 : Nat) : Int))) = xs := by
  unfold cutV
  rw [HT.sIx_none, List.drop_zero, Nat.sub_zero]
  show (xs ++ ys).take (if -((n + 1 : Nat) : Int) < 0 then (-((n + 1 : Nat) : Int) + ((xs ++ ys).length : Int)).toNat else _) = xs
  rw [if_pos (by omega), List.length_append, hl]
  have : (-((n + 1 : Nat) : Int) + ((xs.length + (n + 1) : Nat) : Int)).toNat = xs.length := by omega
  rw [this, List.take_left]
theorem cutNeg2 {xs : List V} {y z : V} : cutV (xs ++ [y, z]) none (some (-2)) = xs := cutNeg (n := 1) rfl
theorem cutNeg1 {xs : List V} {y : V} : cutV (xs ++ [y]) none (some (-1)) = xs := cutNeg (n := 0) rfl
theorem atNeg {xs : List V} {y : V} : atI (xs ++ [y]) (-1) = some y := by
  unfold atI ixN
  rw [if_neg (by omega), if_pos (by simp; omega), Option.bind_some]
  have : (-1 + ((xs ++ [y]).length : Int)).toNat = xs.length := by simp; omega
  rw [this]
  simp
theorem atNeg2 {xs : List V} {y z : V} : atI (xs ++ [y, z]) (-2) = some y := by
  unfold atI ixN
  rw [if_neg (by omega), if_pos (by simp; omega)]
  have : (-2 + ((xs ++ [y, z]).length : Int)).toNat = xs.length := by simp; omega
  rw [Option.bind_some, this]
  simp
theorem natsApp (a b : List Nat) : nats (a ++ b) = nats a ++ nats b := by simp [nats]
/-- a program of rows R -/
def PgIn (K : PySem.W.Frag) (H : Hp) (C x : Addr) (tops : List Int) (R : Rs) : Prop := ∃ a xs, PrIn K H C x tops (.ref a) ∧ SqT K H a xs ∧ DinA K H xs R.ds ∧ (∀ d ∈ R.ds, GRow tops.length 3 d) ∧ R.W tops.length ∧ R.dep ≤ 3 ∧ R.num ≤ 12 ∧ TopsW tops
theorem prS {H H' : Hp} {C x : Addr} {tops : List Int} {rv : V} (e : Same H H') (h : PrIn K H C x tops rv) : PrIn K H' C x tops rv := by
  obtain ⟨dx, t, h1, h2⟩ := h
  exact ⟨dx, t, e _ _ h1, tupS e h2⟩
theorem PgIn.same {H H' : Hp} {C x : Addr} {tops : List Int} {R : Rs} (e : Same H H') (h : PgIn K H C x tops R) : PgIn K H' C x tops R := by
  obtain ⟨a, xs, h1, h2, h3, h4⟩ := h
  exact ⟨a, xs, prS e h1, tupS e h2, dinASame e h3, h4⟩
theorem PgIn.obj {H : Hp} {C x : Addr} {tops : List Int} {R : Rs} (h : PgIn K H C x tops R) : ∃ dx t a, H x = some (.ins C dx [("_tops", .ref t), ("rows", .ref a)]) := by
  obtain ⟨a, xs, ⟨dx, t, h1, _⟩, _⟩ := h
  exact ⟨dx, t, a, h1⟩
theorem lkRow {a b : V} : List.lookup ("row" : Str) ([(("_tops" : Str), a), (("rows" : Str), b)] : List (Str × V)) = none := by
  have h1 : (("row" : Str) == ("_tops" : Str)) = false := by decide +kernel
  have h2 : (("row" : Str) == ("rows" : Str)) = false := by decide +kernel
  simp [List.lookup, h1, h2]
theorem rowOk_hd {many : Nat} {rs : Rs} (h : rs.W many) (n : rs.isNil = false) : rowOk many rs.hd = true := by
  have kd : ("put" : Str) ≠ "if" ∧ ("put" : Str) ≠ "loop" ∧ ("say" : Str) ≠ "if" ∧ ("say" : Str) ≠ "loop" ∧ ("loop" : Str) ≠ "if" ∧ ("if" : Str) ≠ "loop" ∧ ("say" : Str) ≠ "put" ∧ ("if" : Str) ≠ "put" ∧ ("loop" : Str) ≠ "put" ∧ ("if" : Str) ≠ "say" ∧ ("loop" : Str) ≠ "say" := by decide +kernel
  cases rs with
  | nil => cases n
  | put b s t => exact (put_row (r := 0) (by omega) (by have := h.1; omega) h.2.1).1
  | say w t => exact (say_row (r := 0) h.1).1
  | ite w a b t => simp [Rs.hd, rowOk, restOk, kd, sumOk_of h.1]
  | loop w ws b t =>
    have : wordsOk many (.tup (ws.map dSm)) = true := by
      simp only [wordsOk, List.length_map, List.all_map, Bool.and_eq_true, decide_eq_true_eq, List.all_eq_true]
      exact ⟨h.2.2.1, fun x hx => sumOk_of (h.2.1 x hx)⟩
    simp [Rs.hd, rowOk, restOk, kd, sumOk_of h.1, this]
theorem At.short {tops : List Int} {R : Rs} {ah : List Nat} {i : Nat} {rs : Rs} {fr : Fr} (hd : R.dep ≤ 3) (h : At R ah i rs fr) : ah.length ≤ 6 := by
  have := h.deep
  omega
/-- program.row at a position -/
theorem rowSp {H : Hp} {Q : VK} {E : XK} {C x pa : Addr} {tops : List Int} {R : Rs} {ah : List Nat} {i : Nat} {rs : Rs} {fr : Fr} (h : PgIn K H C x tops R) (a : At R ah i rs fr) (n : rs.isNil = false) (hp : SqT K H pa (nats (ah ++ [i])))
    (q : ∀ (H' : Hp) (v : V), Same H H' → Din K H' v rs.hd → Q v H') : spRowAt K C [.ref x, .ref pa] H Q E := by
  obtain ⟨a0, xs, h1, h2, h3, h4, h5, h6, h7, h8⟩ := h
  have := At.short (tops := tops) h6 a
  exact ⟨tops.length, x, a0, pa, tops, xs, R.ds, ah ++ [i], rs.hd, rfl, h1, h2, h3, h4, hp, a.row n, by simp; omega, q⟩
abbrev s__rows_around : Stmt := topS 38
theorem sc__rows_around : FnScope ["program", "place"] ["program", "place"] (defScope s__rows_around) := ⟨rfl, rfl, rfl, by decide +kernel, rfl, by decide +kernel, by decide +kernel⟩

def spAround (K : PySem.W.Frag) (C : Addr) : Sp := fun vs H Q _ => ∃ (x pa : Addr) (tops : List Int) (R : Rs) (ah : List Nat) (i : Nat) (rs : Rs) (fr : Fr), vs = [.ref x, .ref pa] ∧ PgIn K H C x tops R ∧ At R ah i rs fr ∧ rs.isNil = false ∧ SqT K H pa (nats (ah ++ [i])) ∧
  ∀ (H' : Hp) (r : Addr) (ws : List V), Same H H' → SqT K H' r ws → ws.length = i + rs.ds.length → Q (.ref r) H'
theorem ok__rows_around {f C : Addr} {fd : FuncData} {k : Nat} (F : Fun K "_rows_around" "_rows_around" s__rows_around f fd) (B : Bl mg) (cp : ClsP K C) (qcl : Cls K C) (q_row : CalM P w K mg base k C "row" (spRowAt K C)) (c_rows_within : C8.Cal P w K mg base k "rows_within" (spWithin K) []) : FnOk P w K mg base CX0 (k + 1) f fd ["program", "place"] (spAround K C) := by
  refine F.ok sc__rows_around (fun vs H Q E h => ?_) (fun cdv A outer s H vs Q E hr h => ?_)
  · obtain ⟨x, pa, tops, R, ah, i, rs, fr, rfl, _⟩ := h
    rfl
  obtain ⟨x, pa, tops, R, ah, i, rs, fr, rfl, hP, hA, n, hp, q⟩ := h
  refine ⟨_, (pss_cons (ps_if (pt_cmpR op_eq (pe_callB (kLen (K := K) rfl) (by rfl) B.len PySem.boot_len (pa_cons (pv 1) pa_nil)) pe_int (nomark _))
      (pss_one (ps_ret (pe_fld (pv 0) rfl)))
      pss_nil)
    (pss_one (ps_ret (pe_ix (kIxT (K := K) rfl) (C8.pe_c c_rows_within hr (Nat.le_refl _) (by rfl) (pa_cons (pM q_row qcl hr (by omega) (pv 0) (pa_cons (pe_slice (kSlT (K := K) rfl) (pv 1) po_none (po_some (pe_un un_neg pe_int))) pa_nil)) pa_nil)) (pe_ix (kIxT (K := K) rfl) (pv 1) (pe_un un_neg pe_int) (fun _ _ => rfl)) (fun _ _ => rfl))))), ?_⟩
  have ld : ∀ {blk : List D}, blk.drop i = rs.ds → i ≤ blk.length → blk.length = i + rs.ds.length := fun {blk} hdr hil => by
    have := congrArg List.length hdr
    simp at this
    omega
  have top : ∀ (ah2 : List Nat) (j g : Nat) (rs2 : Rs) (fr2 : Fr) (blk : List D), ah = ah2 ++ [j, g] → At R ah2 j rs2 fr2 → rs2.isNil = false → (inner rs2.hd)[g]? = some (.tup blk) → blk.length = i + rs.ds.length →
      tNext { nx := tRet (tOp (rIxT K) (tCall (spWithin K) [] C8.E0 (tCons (tMeth C "row" (spRowAt K C) [] C8.E0 (tVar 0) (tCons (tSl (rSlA K) (tVar 1) tNoPart (tPart (tUn (rU fun i => .int (-i)) (tC (.int 2))))) tNil)) tNil)) (tOp (rIxT K) (tVar 1) (tUn (rU fun i => .int (-i)) (tC (.int 2))))) { nx := fun x H' => Q .non H', rt := Q }, rt := Q } (L2.start ["program", "place"] [.ref x, .ref pa]) H := by
    intro ah2 j g rs2 fr2 blk e hA2 n2 hin lb
    obtain ⟨dx, t, a, hx⟩ := hP.obj
    have en : nats (ah ++ [i]) = nats (ah2 ++ [j]) ++ [.int (g : Nat), .int (i : Nat)] := by rw [e]; simp [nats]
    have ok := rowOk_hd (hA2.w hP.choose_spec.choose_spec.2.2.2.2.1) n2
    rw [en] at hp
    refine ⟨_, rfl, x, dx, _, rfl, hx, lkRow, _, rfl, _, rfl, _, rfl, slUse hp fun p2 H1 s1 hp2 => ?_⟩
    rw [cutNeg2] at hp2
    refine rowSp (E := C8.E0) (hP.same s1) hA2 n2 hp2 fun H2 v s2 hv => ⟨v, rs2.hd, tops.length, rfl, hv, ok, fun pw ws H3 npw s3 epw hws => ?_⟩
    obtain ⟨vz, evz, hz⟩ := dinAtD hws hin
    cases hz with
    | @tup rz xz _ hzT hzA =>
    have s13 := Same.trans s1 (Same.trans s2 s3)
    refine ⟨_, rfl, _, rfl, _, _, _, _, rfl, rfl, tupS s13 hp, atNeg2, _, _, _, _, rfl, rfl, .of epw, atI_nat evz, ?_⟩
    exact q _ _ _ s13 hzT (by rw [hzA.len, lb])
  refine ⟨_, rfl, _, _, rfl, .inr hp, rfl, _, rfl, ?_⟩
  have e1 : ∀ {ah2 : List Nat} {j g : Nat}, ah = ah2 ++ [j, g] → ¬ (V.int ((nats (ah ++ [i])).length : Nat) = V.int 1) := fun e z => by
    injection z with z
    rw [e] at z
    simp [nats] at z
    omega
  cases fr with
  | top =>
    obtain ⟨rfl, h2, h3⟩ := hA.enc
    refine iteT ?_
    obtain ⟨a, xs, ⟨dx, t, hx, ht⟩, g2, g3, _⟩ := hP
    refine ⟨_, rfl, x, C, dx, _, _, rfl, hx, cp.cl, cp.n2, lkRows, q H a xs (Same.refl _) g2 ?_⟩
    rw [g3.len, ld h2 h3]
  | ifF ah2 i2 t up =>
    obtain ⟨w, a, b, j, g, blk, _, e, hA2, hg, h5, h6⟩ := hA.enc
    rw [decide_eq_false (e1 e)]
    refine iteF (top ah2 j g _ _ blk.ds e hA2 rfl ?_ (ld h5 h6))
    rcases hg with ⟨rfl, rfl⟩ | ⟨rfl, rfl⟩
    · rw [Rs.hd, in_if]; rfl
    · rw [Rs.hd, in_if]; rfl
  | loopF ah2 i2 w ws b t up =>
    obtain ⟨e, hA2, h5, h6⟩ := hA.enc
    rw [decide_eq_false (e1 e)]
    refine iteF (top ah2 i2 0 _ _ b.ds e hA2 rfl ?_ (ld h5 h6))
    rw [Rs.hd, in_loop]; rfl
/-- the place of a position, or None -/
def PlO (K : PySem.W.Frag) (H : Hp) (v : V) : Option Pos' → Prop
  | none => v = .non
  | some p => ∃ pa, v = .ref pa ∧ SqT K H pa (nats (p.ah ++ [p.i]))
theorem PlO.same {H H' : Hp} {v : V} {o : Option Pos'} (e : Same H H') (h : PlO K H v o) : PlO K H' v o := by
  cases o with
  | none => exact h
  | some p =>
    obtain ⟨pa, e0, h1⟩ := h
    exact ⟨pa, e0, tupS e h1⟩
abbrev s_behind : Stmt := topS 30
theorem sc_behind : FnScope ["program", "place"] ["program", "place"] (defScope s_behind) := ⟨rfl, rfl, rfl, by decide +kernel, rfl, by decide +kernel, by decide +kernel⟩

def spBehind (K : PySem.W.Frag) (C : Addr) : Sp := fun vs H Q _ => ∃ (x pa : Addr) (tops : List Int) (R : Rs) (ah : List Nat) (i : Nat) (rs : Rs) (fr : Fr), vs = [.ref x, .ref pa] ∧ PgIn K H C x tops R ∧ At R ah i rs fr ∧ rs.isNil = false ∧ SqT K H pa (nats (ah ++ [i])) ∧
  ∀ (H' : Hp) (v : V), Same H H' → PlO K H' v (norm fr rs.tl ah (i + 1)) → Q v H'
theorem ok_behind {f C : Addr} {fd : FuncData} {k : Nat} (F : Fun K "behind" "behind" s_behind f fd) (B : Bl mg) (qcl : Cls K C) (q_row : CalM P w K mg base k C "row" (spRowAt K C)) (c__rows_around : C8.Cal P w K mg base k "_rows_around" (spAround K C) []) : FnOk P w K mg base CX0 (k + 1) f fd ["program", "place"] (spBehind K C) := by
  refine F.ok sc_behind (fun vs H Q E h => ?_) (fun cdv A outer s H vs Q E hr h => ?_)
  · obtain ⟨x, pa, tops, R, ah, i, rs, fr, rfl, _⟩ := h
    rfl
  obtain ⟨x, pa, tops, R, ah, i, rs, fr, rfl, hP, hA, n, hp, q⟩ := h
  refine ⟨_, (pss_one (ps_while PassesOwn.never (pt_val pe_bl)
      (pss_cons (ps_if (pt_cmpR op_lt (pe_op op_add (pe_ix (kIxT (K := K) rfl) (pv 1) (pe_un un_neg pe_int) (fun _ _ => rfl)) pe_int) (pe_callB (kLen (K := K) rfl) (by rfl) B.len PySem.boot_len (pa_cons (C8.pe_c c__rows_around hr (Nat.le_refl _) (by rfl) (pa_cons (pv 0) (pa_cons (pv 1) pa_nil))) pa_nil)) (nomark _))
        (pss_one (ps_ret (pe_op (kCatT (K := K) rfl) (pe_slice (kSlT (K := K) rfl) (pv 1) po_none (po_some (pe_un un_neg pe_int))) (pe_tup (pa_cons (pe_op op_add (pe_ix (kIxT (K := K) rfl) (pv 1) (pe_un un_neg pe_int) (fun _ _ => rfl)) pe_int) pa_nil)))))
        pss_nil)
      (pss_cons (ps_if (pt_cmpR op_eq (pe_callB (kLen (K := K) rfl) (by rfl) B.len PySem.boot_len (pa_cons (pv 1) pa_nil)) pe_int (nomark _))
        (pss_one (ps_ret pe_non))
        pss_nil)
      (pss_cons (ps_set (i := 1) sc_behind.nd rfl (.inl rfl) (pe_slice (kSlT (K := K) rfl) (pv 1) po_none (po_some (pe_un un_neg pe_int))))
      (pss_one (ps_if (pt_cmpR op_eq (pe_ix (kIxT (K := K) rfl) (pM q_row qcl hr (by omega) (pv 0) (pa_cons (pv 1) pa_nil)) pe_int (fun _ _ => rfl)) pe_str (nomark _))
        (pss_one (ps_ret (pv 1)))
        pss_nil))))))), ?_⟩
  obtain ⟨G, hG⟩ : ∃ G, G = norm fr rs.tl ah (i + 1) := ⟨_, rfl⟩
  rw [← hG] at q
  refine ⟨fun m σ H' => ∃ (pa : Addr) (ah : List Nat) (i : Nat) (rs : Rs) (fr : Fr), σ = [some (.ref x), some (.ref pa)] ∧ Same H H' ∧ At R ah i rs fr ∧ rs.isNil = false ∧ SqT K H' pa (nats (ah ++ [i])) ∧ G = norm fr rs.tl ah (i + 1) ∧ ah.length = m,
    ⟨_, pa, ah, i, rs, fr, rfl, Same.refl _, hA, n, hp, hG, rfl⟩, ?_⟩
  clear hA n hp hG pa ah i rs fr
  rintro m σ H1 ⟨pa, ah, i, rs, fr, rfl, sm, hA, n, hp, hG, hm⟩
  have hP1 := hP.same sm
  refine ⟨true, rfl, iteT ⟨_, fun σ' H' z => z, ?_⟩⟩
  have en : nats (ah ++ [i]) = nats ah ++ [.int (i : Nat)] := natsApp _ _
  rw [en] at hp
  have hsh := At.short (tops := tops) (by obtain ⟨_, _, _, _, _, _, _, h, _⟩ := hP; exact h) hA
  -- place[-1] + 1 < len(_rows_around(program, place))
  refine ⟨_, rfl, _, rfl, _, _, _, _, rfl, rfl, hp, atNeg, _, _, rfl, rfl, _, rfl, _, rfl, x, pa, tops, R, ah, i, rs, fr, rfl, hP1, hA, n, by rw [en]; exact hp, fun H2 r ws s2 hr hw => ?_⟩
  refine ⟨_, _, rfl, .inr hr, _, _, rfl, rfl, _, rfl, ?_⟩
  have sm2 := Same.trans sm s2
  rw [hw, Rs.ds_hd n, List.length_cons]
  have hp2 := tupS s2 hp
  refine yesDec (fun c => ?_) (fun c => ?_)
  · -- there is a next one
    have nt : rs.tl.isNil = false := by
      cases e : rs.tl with
      | nil =>
        rw [e] at c
        simp [Rs.ds] at c
      | _ => rfl
    refine ⟨_, rfl, _, rfl, _, rfl, slUse hp2 fun p2 H3 s3 hp3 => ?_⟩
    rw [cutNeg1] at hp3
    have hp23 := tupS s3 hp2
    refine ⟨_, rfl, _, rfl, _, _, _, _, rfl, rfl, hp23, atNeg, _, _, rfl, rfl, by show 1 ≤ sizeLine; decide, fun U nU => ?_⟩
    have sU := sameNew (o := .tup [.int ((i : Nat) + 1 : Int)]) nU
    refine catUse (tupS sU hp3) (.of upd_same) (by simp [nats]; omega) fun r5 H5 s5 h5 => ?_
    refine q H5 _ (Same.trans sm2 (Same.trans s3 (Same.trans sU s5))) ?_
    rw [hG, norm_here nt]
    refine ⟨r5, rfl, ?_⟩
    have e : nats (ah ++ [i + 1]) = nats ah ++ [.int ((i : Nat) + 1 : Int)] := by simp [nats]
    rw [e]
    exact h5
  · have ht : rs.tl = .nil := by
      cases e : rs.tl with
      | nil => rfl
      | _ => rw [e] at c; simp [Rs.ds] at c; omega
    refine ⟨_, rfl, _, _, rfl, .inr hp2, rfl, _, rfl, ?_⟩
    cases fr with
    | top =>
      obtain ⟨rfl, _, _⟩ := hA.enc
      refine iteT ?_
      refine q _ _ sm2 ?_
      rw [hG, ht]
      exact rfl
    | ifF ah2 i2 t up =>
      obtain ⟨w, a, b, j, g, blk, rfl, rfl, hA2, hg, h5, h6⟩ := hA.enc
      have e1 : ¬ (V.int ((nats (ah2 ++ [j, g]) ++ [V.int (i : Nat)]).length : Nat) = V.int 1) := fun z => by
        injection z with z
        simp [nats] at z
        omega
      rw [decide_eq_false e1]
      refine iteF ?_
      refine ⟨_, rfl, _, rfl, _, rfl, slUse hp2 fun p2 H3 s3 hp3 => ?_⟩
      have e2 : nats (ah2 ++ [j, g]) ++ [V.int (i : Nat)] = nats (ah2 ++ [j]) ++ [.int (g : Nat), .int (i : Nat)] := by simp [nats]
      rw [e2, cutNeg2] at hp3
      have sm3 := Same.trans sm2 s3
      obtain ⟨dx, tt, aa, hx⟩ := (hP.same sm3).obj
      refine ⟨_, rfl, x, dx, _, rfl, hx, lkRow, _, rfl, rowSp (E := C8.E0) (hP.same sm3) hA2 rfl hp3 fun H4 v s4 hv => ?_⟩
      cases hv with
      | @tup ra _ _ hR hRA =>
      cases hRA with
      | cons h0 hA1 =>
      cases h0
      refine ⟨_, _, _, _, rfl, rfl, hR, atI_nat (j := 0) rfl, rfl, _, rfl, ?_⟩
      refine yesDec (fun c => absurd (strEq.mp c) (by decide +kernel)) (fun c => ?_)
      refine ⟨_, ?_, p2, ah2, j, _, _, rfl, Same.trans sm3 s4, hA2, rfl, tupS s4 hp3, ?_, rfl⟩
      · rw [← hm]
        simp
      · rw [hG, ht]
        rfl
    | loopF ah2 j w ws b t up =>
      obtain ⟨rfl, hA2, h5, h6⟩ := hA.enc
      have e1 : ¬ (V.int ((nats (ah2 ++ [j, 0]) ++ [V.int (i : Nat)]).length : Nat) = V.int 1) := fun z => by
        injection z with z
        simp [nats] at z
        omega
      rw [decide_eq_false e1]
      refine iteF ?_
      refine ⟨_, rfl, _, rfl, _, rfl, slUse hp2 fun p2 H3 s3 hp3 => ?_⟩
      have e2 : nats (ah2 ++ [j, 0]) ++ [V.int (i : Nat)] = nats (ah2 ++ [j]) ++ [.int ((0 : Nat) : Int), .int (i : Nat)] := by simp [nats]
      rw [e2, cutNeg2] at hp3
      have sm3 := Same.trans sm2 s3
      obtain ⟨dx, tt, aa, hx⟩ := (hP.same sm3).obj
      refine ⟨_, rfl, x, dx, _, rfl, hx, lkRow, _, rfl, rowSp (E := C8.E0) (hP.same sm3) hA2 rfl hp3 fun H4 v s4 hv => ?_⟩
      cases hv with
      | @tup ra _ _ hR hRA =>
      cases hRA with
      | cons h0 hA1 =>
      cases h0
      refine ⟨_, _, _, _, rfl, rfl, hR, atI_nat (j := 0) rfl, rfl, _, rfl, ?_⟩
      refine yesDec (fun c => ?_) (fun c => absurd (strEq.mpr rfl) c)
      refine ⟨_, rfl, q _ _ (Same.trans sm3 s4) ?_⟩
      rw [hG, ht]
      exact ⟨p2, rfl, tupS s4 hp3⟩
abbrev s_beginning : Stmt := topS 31
theorem sc_beginning : FnScope ["program"] ["program"] (defScope s_beginning) := ⟨rfl, rfl, rfl, by decide +kernel, rfl, by decide +kernel, by decide +kernel⟩

def spBegin (K : PySem.W.Frag) (C : Addr) : Sp := fun vs H Q _ => ∃ (x : Addr) (tops : List Int) (R : Rs), vs = [.ref x] ∧ PgIn K H C x tops R ∧ ∀ (H' : Hp) (v : V), Same H H' → PlO K H' v (norm .top R [] 0) → Q v H'
theorem ok_beginning {f C : Addr} {fd : FuncData} {k : Nat} (F : Fun K "beginning" "beginning" s_beginning f fd) (B : Bl mg) (cp : ClsP K C) : FnOk P w K mg base CX0 (k + 1) f fd ["program"] (spBegin K C) := by
  refine F.ok sc_beginning (fun vs H Q E h => ?_) (fun cdv A outer s H vs Q E hr h => ?_)
  · obtain ⟨x, tops, R, rfl, _⟩ := h
    rfl
  obtain ⟨x, tops, R, rfl, hP, q⟩ := h
  refine ⟨_, (pss_one (ps_ret (pe_ifExp (pt_cmpR op_gt (pe_callB (kLen (K := K) rfl) (by rfl) B.len PySem.boot_len (pa_cons (pe_fld (pv 0) rfl) pa_nil)) pe_int (nomark _)) (pe_tup (pa_cons pe_int pa_nil)) pe_non))), ?_⟩
  obtain ⟨a, xs, ⟨dx, t, hx, ht⟩, g2, g3, _⟩ := hP
  refine ⟨_, rfl, x, C, dx, _, _, rfl, hx, cp.cl, cp.n2, lkRows, _, _, rfl, .inr g2, _, _, rfl, rfl, _, rfl, ?_⟩
  rw [g3.len]
  cases e : R.isNil with
  | true =>
    cases R with
    | nil => exact iteF (q _ _ (Same.refl _) rfl)
    | _ => cases e
  | false =>
    have hl : (0 : Int) < (R.ds.length : Nat) := by
      rw [Rs.ds_hd e, List.length_cons]
      omega
    rw [decide_eq_true hl]
    refine iteT ⟨by show 1 ≤ sizeLine; decide, fun p np => ?_⟩
    refine q _ _ (sameNew np) ?_
    rw [norm_here e]
    exact ⟨p, rfl, .of upd_same⟩

end

end LW

namespace LW
open PySem PySem.Spec PyProof.Rows L2
local macro_rules | `(tactic| walk_at "go1") => `(tactic| first
  | refine ⟨_, rfl, ?_⟩
  | refine ⟨_, _, rfl, rfl, ?_⟩
  | refine ⟨show (0 : Int) < _ from by omega, ?_⟩
  | refine ⟨show CMul _ _ from by first | exact .inl ⟨by omega, by omega⟩ | exact .inr ⟨by omega, by omega⟩, ?_⟩
  | refine ⟨show CDiv _ _ from ⟨by omega, by omega⟩, ?_⟩)
local macro_rules | `(tactic| walk_at "go") => `(tactic| repeat walk_at "go1")

section
variable {P : Program} {w : World} {K : PySem.W.Frag} {mg : Str → Option Value} {base : Heap}

abbrev s_beyond : Stmt := topS 32
theorem sc_beyond : FnScope ["program", "place", "holds", "row", "which", "groups"] ["program", "place", "holds"] (defScope s_beyond) := ⟨rfl, rfl, rfl, by decide +kernel, rfl, by decide +kernel, by decide +kernel⟩

def spBeyond (K : PySem.W.Frag) (C : Addr) : Sp := fun vs H Q _ => ∃ (x pa : Addr) (tops : List Int) (R : Rs) (p : Pos') (h : Bool), vs = [.ref x, .ref pa, .bl h] ∧ PgIn K H C x tops R ∧ At R p.ah p.i p.rs p.fr ∧ ((∃ w a b t, p.rs = .ite w a b t) ∨ ∃ w ws b t, p.rs = .loop w ws b t) ∧ SqT K H pa (nats (p.ah ++ [p.i])) ∧
  ∀ (H' : Hp) (v : V), Same H H' → PlO K H' v (p.go h) → Q v H'
theorem ok_beyond {f C : Addr} {fd : FuncData} {k : Nat} (F : Fun K "beyond" "beyond" s_beyond f fd) (B : Bl mg) (qcl : Cls K C) (q_row : CalM P w K mg base k C "row" (spRowAt K C)) (c_rows_within : C8.Cal P w K mg base k "rows_within" (spWithin K) []) (c_behind : C8.Cal P w K mg base k "behind" (spBehind K C) []) : FnOk P w K mg base CX0 (k + 1) f fd ["program", "place", "holds"] (spBeyond K C) := by
  refine F.ok sc_beyond (fun vs H Q E h => ?_) (fun cdv A outer s H vs Q E hr h => ?_)
  · obtain ⟨x, pa, tops, R, p, h, rfl, _⟩ := h
    rfl
  obtain ⟨x, pa, tops, R, ⟨ah, i, rs, fr⟩, h, rfl, hP, hA, hk, hp, q⟩ := h
  dsimp only at hA hk hp
  refine ⟨_, (pss_cons (ps_set (i := 3) sc_beyond.nd rfl (.inl rfl) (pM q_row qcl hr (by omega) (pv 0) (pa_cons (pv 1) pa_nil)))
    (pss_cons (ps_set (i := 4) sc_beyond.nd rfl (.inl rfl) (pe_ifExp (pt_val (pv 2)) pe_int pe_int))
    (pss_cons (ps_set (i := 5) sc_beyond.nd rfl (.inl rfl) (C8.pe_c c_rows_within hr (Nat.le_refl _) (by rfl) (pa_cons (pv 3) pa_nil)))
    (pss_cons (ps_if (PW.pt (pw_and (pt_cmpR op_lt (pv 4) (pe_callB (kLen (K := K) rfl) (by rfl) B.len PySem.boot_len (pa_cons (pv 5) pa_nil)) (nomark _)) (pw_and1 (pt_cmpR op_gt (pe_callB (kLen (K := K) rfl) (by rfl) B.len PySem.boot_len (pa_cons (pe_ix (kIxT (K := K) rfl) (pv 5) (pv 4) (fun _ _ => rfl)) pa_nil)) pe_int (nomark _)))))
      (pss_one (ps_ret (pe_op (kCatT (K := K) rfl) (pv 1) (pe_tup (pa_cons (pv 4) (pa_cons pe_int pa_nil))))))
      pss_nil)
    (pss_cons (ps_if (PW.pt (pw_and (pt_cmpR op_eq (pe_ix (kIxT (K := K) rfl) (pv 3) pe_int (fun _ _ => rfl)) pe_str (nomark _)) (pw_and1 (pt_val (pv 2)))))
      (pss_one (ps_ret (pv 1)))
      pss_nil)
    (pss_one (ps_ret (C8.pe_c c_behind hr (Nat.le_refl _) (by rfl) (pa_cons (pv 0) (pa_cons (pv 1) pa_nil)))))))))), ?_⟩
  obtain ⟨dx, tt, aa, hx⟩ := hP.obj
  have n : rs.isNil = false := by rcases hk with ⟨_, _, _, _, rfl⟩ | ⟨_, _, _, _, rfl⟩ <;> rfl
  have hw := hA.w hP.choose_spec.choose_spec.2.2.2.2.1
  refine ⟨_, rfl, x, dx, _, rfl, hx, lkRow, _, rfl, rowSp (E := C8.E0) hP hA n hp fun H1 v s1 hv => ?_⟩
  have hsh := At.short (tops := tops) (by obtain ⟨_, _, _, _, _, _, _, h, _⟩ := hP; exact h) hA
  -- a group with rows: the place within
  have into : ∀ {H3 : Hp} {g : Nat} {R2 : VK}, Same H H3 → (∀ (H' : Hp) (r : Addr), Same H H' → SqT K H' r (nats (ah ++ [i, g] ++ [0])) → R2 (.ref r) H') → ∀ T : Addr, H3 T = none → rCatA K (.ref pa) (.ref T) (upd H3 T (.tup [.int (g : Nat), .int 0])) R2 := fun {H3 g R2} s3 q2 T nT => by
    have sT := sameNew (o := .tup [.int (g : Nat), .int 0]) nT
    refine catUse (tupS (Same.trans s3 sT) hp) (.of upd_same) (by simp [nats]; omega) fun r5 H5 s5 h5 => q2 H5 r5 (Same.trans s3 (Same.trans sT s5)) ?_
    have e : nats (ah ++ [i, g] ++ [0]) = nats (ah ++ [i]) ++ [.int (g : Nat), .int 0] := by simp [nats]
    rw [e]
    exact h5
  have ok := rowOk_hd hw n
  have hP1 := hP.same s1
  rcases hk with ⟨w, a, b, t, rfl⟩ | ⟨w, ws, b, t, rfl⟩
  · have hvd := hv
    cases hvd with
    | @tup ra rx _ hR hRA =>
    cases hRA with
    | cons k0 kA =>
    cases k0
    cases h with
    | true =>
      refine ⟨_, rfl, _, rfl, iteT ⟨_, rfl, .ref ra, (Rs.ite w a b t).hd, tops.length, rfl, hv, ok, fun pw ws H3 npw s3 epw hws => ?_⟩⟩
      have s03 := Same.trans s1 s3
      have lws := hws.len
      rw [Rs.hd, in_if] at hws lws
      obtain ⟨vz, evz, hz⟩ := dinAtD hws (show [D.tup a.ds, .tup b.ds][0]? = some (.tup a.ds) from rfl)
      cases hz with
      | @tup rz xz _ hzT hzA =>
      refine ⟨_, rfl, _, rfl, _, _, rfl, .inr (.of epw), _, _, rfl, rfl, _, rfl, ?_⟩
      rw [decide_eq_true (show (0 : Int) < (ws.length : Nat) by simp at lws; omega)]
      refine iteT ?_
      refine ⟨_, rfl, _, rfl, _, _, _, _, rfl, rfl, .of epw, atI_nat (j := 0) evz, _, _, rfl, .inr hzT, _, _, rfl, rfl, _, rfl, ?_⟩
      rw [hzA.len]
      cases e : a.isNil with
      | false =>
        rw [decide_eq_true (show (0 : Int) < (a.ds.length : Nat) by rw [Rs.ds_hd e, List.length_cons]; omega)]
        refine iteT ⟨_, rfl, _, rfl, by show 2 ≤ sizeLine; decide, into (g := 0) s03 fun H' r5 s5 h5 => q H' _ s5 ?_⟩
        show PlO K H' (.ref r5) (norm (.ifF ah (i + 1) t fr) a (ah ++ [i, 0]) 0)
        rw [norm_here e]
        exact ⟨r5, rfl, h5⟩
      | true =>
        have eb : a = .nil := by
          cases a with
          | nil => rfl
          | _ => cases e
        subst eb
        refine iteF ?_
        refine ⟨_, rfl, _, _, _, _, rfl, rfl, tupS s3 hR, atI_nat (j := 0) rfl, rfl, _, rfl, ?_⟩
        rw [decide_eq_false (fun c => absurd (strEq.mp c) (by decide +kernel))]
        refine iteF (iteF ?_)
        exact ⟨_, rfl, _, rfl, x, pa, tops, R, ah, i, _, fr, rfl, hP.same s03, hA, n, tupS s03 hp, fun H' v s hv => q H' v (Same.trans s03 s) hv⟩
    | false =>
      refine ⟨_, rfl, _, rfl, iteF ⟨_, rfl, .ref ra, (Rs.ite w a b t).hd, tops.length, rfl, hv, ok, fun pw ws H3 npw s3 epw hws => ?_⟩⟩
      have s03 := Same.trans s1 s3
      have lws := hws.len
      rw [Rs.hd, in_if] at hws lws
      obtain ⟨vz, evz, hz⟩ := dinAtD hws (show [D.tup a.ds, .tup b.ds][1]? = some (.tup b.ds) from rfl)
      cases hz with
      | @tup rz xz _ hzT hzA =>
      refine ⟨_, rfl, _, rfl, _, _, rfl, .inr (.of epw), _, _, rfl, rfl, _, rfl, ?_⟩
      rw [decide_eq_true (show (1 : Int) < (ws.length : Nat) by simp at lws; omega)]
      refine iteT ?_
      refine ⟨_, rfl, _, rfl, _, _, _, _, rfl, rfl, .of epw, atI_nat (j := 1) evz, _, _, rfl, .inr hzT, _, _, rfl, rfl, _, rfl, ?_⟩
      rw [hzA.len]
      cases e : b.isNil with
      | false =>
        rw [decide_eq_true (show (0 : Int) < (b.ds.length : Nat) by rw [Rs.ds_hd e, List.length_cons]; omega)]
        refine iteT ⟨_, rfl, _, rfl, by show 2 ≤ sizeLine; decide, into (g := 1) s03 fun H' r5 s5 h5 => q H' _ s5 ?_⟩
        show PlO K H' (.ref r5) (norm (.ifF ah (i + 1) t fr) b (ah ++ [i, 1]) 0)
        rw [norm_here e]
        exact ⟨r5, rfl, h5⟩
      | true =>
        have eb : b = .nil := by
          cases b with
          | nil => rfl
          | _ => cases e
        subst eb
        refine iteF ?_
        refine ⟨_, rfl, _, _, _, _, rfl, rfl, tupS s3 hR, atI_nat (j := 0) rfl, rfl, _, rfl, ?_⟩
        rw [decide_eq_false (fun c => absurd (strEq.mp c) (by decide +kernel))]
        refine iteF (iteF ?_)
        exact ⟨_, rfl, _, rfl, x, pa, tops, R, ah, i, _, fr, rfl, hP.same s03, hA, n, tupS s03 hp, fun H' v s hv => q H' v (Same.trans s03 s) hv⟩
  · have hvd := hv
    cases hvd with
    | @tup ra rx _ hR hRA =>
    cases hRA with
    | cons k0 kA =>
    cases k0
    cases h with
    | true =>
      refine ⟨_, rfl, _, rfl, iteT ⟨_, rfl, .ref ra, (Rs.loop w ws b t).hd, tops.length, rfl, hv, ok, fun pw gs H3 npw s3 epw hgs => ?_⟩⟩
      have s03 := Same.trans s1 s3
      have lgs := hgs.len
      rw [Rs.hd, in_loop] at hgs lgs
      obtain ⟨vz, evz, hz⟩ := dinAtD hgs (show [D.tup b.ds][0]? = some (.tup b.ds) from rfl)
      cases hz with
      | @tup rz xz _ hzT hzA =>
      refine ⟨_, rfl, _, rfl, _, _, rfl, .inr (.of epw), _, _, rfl, rfl, _, rfl, ?_⟩
      rw [decide_eq_true (show (0 : Int) < (gs.length : Nat) by simp at lgs; omega)]
      refine iteT ?_
      refine ⟨_, rfl, _, rfl, _, _, _, _, rfl, rfl, .of epw, atI_nat (j := 0) evz, _, _, rfl, .inr hzT, _, _, rfl, rfl, _, rfl, ?_⟩
      rw [hzA.len]
      cases e : b.isNil with
      | false =>
        rw [decide_eq_true (show (0 : Int) < (b.ds.length : Nat) by rw [Rs.ds_hd e, List.length_cons]; omega)]
        refine iteT ⟨_, rfl, _, rfl, by show 2 ≤ sizeLine; decide, into (g := 0) s03 fun H' r5 s5 h5 => q H' _ s5 ?_⟩
        show PlO K H' (.ref r5) (norm (.loopF ah i w ws b t fr) b (ah ++ [i, 0]) 0)
        rw [norm_here e]
        exact ⟨r5, rfl, h5⟩
      | true =>
        have eb : b = .nil := by
          cases b with
          | nil => rfl
          | _ => cases e
        subst eb
        refine iteF ?_
        refine ⟨_, rfl, _, _, _, _, rfl, rfl, tupS s3 hR, atI_nat (j := 0) rfl, rfl, _, rfl, ?_⟩
        rw [decide_eq_true (strEq.mpr rfl)]
        refine iteT ⟨_, rfl, _, rfl, iteT ?_⟩
        exact ⟨_, rfl, q _ _ s03 ⟨pa, rfl, tupS s03 hp⟩⟩
    | false =>
      refine ⟨_, rfl, _, rfl, iteF ⟨_, rfl, .ref ra, (Rs.loop w ws b t).hd, tops.length, rfl, hv, ok, fun pw gs H3 npw s3 epw hgs => ?_⟩⟩
      have s03 := Same.trans s1 s3
      have lgs := hgs.len
      rw [Rs.hd, in_loop] at hgs lgs
      refine ⟨_, rfl, _, rfl, _, _, rfl, .inr (.of epw), _, _, rfl, rfl, _, rfl, ?_⟩
      rw [decide_eq_false (show ¬ (1 : Int) < (gs.length : Nat) by simp at lgs; omega)]
      refine iteF (iteF ?_)
      refine ⟨_, rfl, _, _, _, _, rfl, rfl, tupS s3 hR, atI_nat (j := 0) rfl, rfl, _, rfl, ?_⟩
      rw [decide_eq_true (strEq.mpr rfl)]
      refine iteT ⟨_, rfl, _, rfl, iteF ?_⟩
      exact ⟨_, rfl, _, rfl, x, pa, tops, R, ah, i, _, fr, rfl, hP.same s03, hA, n, tupS s03 hp, fun H' v s hv => q H' v (Same.trans s03 s) hv⟩

end

end LW

namespace LW
open PySem PySem.Spec PyProof.Rows L2
local macro_rules | `(tactic| walk_at "go1") => `(tactic| first
  | refine ⟨_, rfl, ?_⟩
  | refine ⟨_, _, rfl, rfl, ?_⟩
  | refine ⟨show (0 : Int) < _ from by omega, ?_⟩
  | refine ⟨show CMul _ _ from by first | exact .inl ⟨by omega, by omega⟩ | exact .inr ⟨by omega, by omega⟩, ?_⟩
  | refine ⟨show CDiv _ _ from ⟨by omega, by omega⟩, ?_⟩)
local macro_rules | `(tactic| walk_at "go") => `(tactic| repeat walk_at "go1")

section
variable {P : Program} {w : World} {K : PySem.W.Frag} {mg : Str → Option Value} {base : Heap}

abbrev s_value : Stmt := topS 26
theorem sc_value : FnScope ["one", "filling", "numbers", "last", "number", "held"] ["one", "filling"] (defScope s_value) := ⟨rfl, rfl, rfl, by decide +kernel, rfl, by decide +kernel, by decide +kernel⟩

def spValue (K : PySem.W.Frag) : Sp := fun vs H Q _ => ∃ (v : V) (f : Addr) (s : Sm) (xs : List Int), vs = [v, .ref f] ∧ SumIn K H v s ∧ SqL K H f (xs.map V.int) ∧ s.1.length = xs.length ∧ xs.length ≤ 1000 ∧
  (∀ n ∈ s.1, Wd 400000 n) ∧ (∀ x ∈ xs, Wd 400000 x) ∧ ∀ H', Same H H' → Q (.int (val s xs)) H'
def spValueA (K : PySem.W.Frag) : Sp := fun vs H Q _ => ∃ (v : V) (f : Addr) (s : Sm) (xs : List Int), vs = [v, .ref f] ∧ SumIn K H v s ∧ (SqL K H f (xs.map V.int) ∨ SqT K H f (xs.map V.int)) ∧ s.1.length = xs.length ∧ xs.length ≤ 1000 ∧
  (∀ n ∈ s.1, Wd 400000 n) ∧ (∀ x ∈ xs, Wd 400000 x) ∧ ∀ H', Same H H' → Q (.int (val s xs)) H'
theorem ok_value {f : Addr} {fd : FuncData} {k : Nat} (F : Fun K "value" "value" s_value f fd) (B : Bl mg) : FnOk P w K mg base CX0 (k + 1) f fd ["one", "filling"] (spValueA K) := by
  refine F.ok sc_value (fun vs H Q E h => ?_) (fun cdv A outer s H vs Q E hr h => ?_)
  · obtain ⟨v, f, s, xs, rfl, _⟩ := h
    rfl
  obtain ⟨v, f, ⟨ns, m⟩, xs, rfl, ⟨a, t, rfl, h1, h2⟩, hF, hl, hz, w1, w2, q⟩ := h
  dsimp only at h1 h2 hl w1 w2 q
  rcases hF with hF | hF
  · refine ⟨_, (pss_cons (ps_asg (pv 0) (kT2 (K := K) rfl rfl (pg_name (i := 2) sc_value.nd rfl (.inl rfl)) (pg_name (i := 3) sc_value.nd rfl (.inl rfl))))
    (pss_one (ps_ret (pe_op op_add (pv 3) (pe_callB (kSum (K := K) rfl rfl) (by rfl) B.sum (by decide +kernel) (pa_cons (pe_lc (own := [("number", 4), ("held", 5)]) rfl sc_value.nd (kZ (K := K) rfl true false (by rfl) B.zip (pa_cons (pv 2) (pa_cons (pv 1) pa_nil))) (blkOk_by (own := [("number", 4), ("held", 5)]) (N := ["one", "filling", "numbers", "last", "number", "held"]) (sc := defScope s_value) (by decide +kernel)) (fun _ _ _ _ _ => (pgT2 (K := K) rfl (pgN (i := 4) sc_value.nd rfl (.inl rfl) (.inr rfl)) (pgN (i := 5) sc_value.nd rfl (.inl rfl) (.inr rfl)) rfl (by rfl) (by rfl) (by rfl) (by rfl))) (fun _ _ _ _ _ => pts_nil) (fun _ _ _ _ _ => (pe_op op_mulW (pv 4) (pv 5)))) pa_nil)))))), ?_⟩
    refine ⟨_, rfl, _, _, rfl, h1, rfl, _, _, rfl, _, _, rfl, rfl, ?_⟩
    refine ⟨_, rfl, _, rfl, _, rfl, _, _, _, _, rfl, h2, hF, fun D nD => ?_⟩
    refine lc_it (walkZ (n := ns.length) (by simp [hl])) (Made H D (RI fun i => (ns[i]?.getD 0) * (xs[i]?.getD 0))) (made0 nD) (fun i H1 _ p => ⟨tupS p.same h2, Same.seq p.same hF⟩) (fun i x H1 H2 hi p y => ?_) (fun H1 p => ?_)
    · obtain ⟨T, x1, x2, rfl, nT, rfl, e1, e2⟩ := y
      have i1 : i < xs.length := by omega
      have f1 := mapAt e1 hi
      have f2 := mapAt e2 i1
      subst f1 f2
      refine ⟨_, _, rfl, .inl (.inl upd_same), rfl, _, _, rfl, _, _, rfl, rfl, rfl, ?_⟩
      refine lcYes ?_
      refine ⟨_, rfl, _, rfl, _, _, rfl, rfl, Wd.mulOk (w1 _ (List.getElem_mem _)) (w2 _ (List.getElem_mem _)) (by decide) (by decide) (by decide), ?_⟩
      exact p.push nD (stRI _) (by omega) (sameNew nT) (by simp [RI, hi, i1])
    · obtain ⟨g, sm⟩ := madeRI p
      refine ⟨_, _, rfl, .of g, _, _, rfl, rfl, ?_⟩
      rw [← dot_sum ns xs hl]
      exact q _ sm
  · refine ⟨_, (pss_cons (ps_asg (pv 0) (kT2 (K := K) rfl rfl (pg_name (i := 2) sc_value.nd rfl (.inl rfl)) (pg_name (i := 3) sc_value.nd rfl (.inl rfl))))
    (pss_one (ps_ret (pe_op op_add (pv 3) (pe_callB (kSum (K := K) rfl rfl) (by rfl) B.sum (by decide +kernel) (pa_cons (pe_lc (own := [("number", 4), ("held", 5)]) rfl sc_value.nd (kZ (K := K) rfl true true (by rfl) B.zip (pa_cons (pv 2) (pa_cons (pv 1) pa_nil))) (blkOk_by (own := [("number", 4), ("held", 5)]) (N := ["one", "filling", "numbers", "last", "number", "held"]) (sc := defScope s_value) (by decide +kernel)) (fun _ _ _ _ _ => (pgT2 (K := K) rfl (pgN (i := 4) sc_value.nd rfl (.inl rfl) (.inr rfl)) (pgN (i := 5) sc_value.nd rfl (.inl rfl) (.inr rfl)) rfl (by rfl) (by rfl) (by rfl) (by rfl))) (fun _ _ _ _ _ => pts_nil) (fun _ _ _ _ _ => (pe_op op_mulW (pv 4) (pv 5)))) pa_nil)))))), ?_⟩
    refine ⟨_, rfl, _, _, rfl, h1, rfl, _, _, rfl, _, _, rfl, rfl, ?_⟩
    refine ⟨_, rfl, _, rfl, _, rfl, _, _, _, _, rfl, h2, hF, fun D nD => ?_⟩
    refine lc_it (walkZ (n := ns.length) (by simp [hl])) (Made H D (RI fun i => (ns[i]?.getD 0) * (xs[i]?.getD 0))) (made0 nD) (fun i H1 _ p => ⟨tupS p.same h2, tupS p.same hF⟩) (fun i x H1 H2 hi p y => ?_) (fun H1 p => ?_)
    · obtain ⟨T, x1, x2, rfl, nT, rfl, e1, e2⟩ := y
      have i1 : i < xs.length := by omega
      have f1 := mapAt e1 hi
      have f2 := mapAt e2 i1
      subst f1 f2
      refine ⟨_, _, rfl, .inl (.inl upd_same), rfl, _, _, rfl, _, _, rfl, rfl, rfl, ?_⟩
      refine lcYes ?_
      refine ⟨_, rfl, _, rfl, _, _, rfl, rfl, Wd.mulOk (w1 _ (List.getElem_mem _)) (w2 _ (List.getElem_mem _)) (by decide) (by decide) (by decide), ?_⟩
      exact p.push nD (stRI _) (by omega) (sameNew nT) (by simp [RI, hi, i1])
    · obtain ⟨g, sm⟩ := madeRI p
      refine ⟨_, _, rfl, .of g, _, _, rfl, rfl, ?_⟩
      rw [← dot_sum ns xs hl]
      exact q _ sm

abbrev s_opposite : Stmt := topS 27
theorem sc_opposite : FnScope ["one", "numbers", "last", "number"] ["one"] (defScope s_opposite) := ⟨rfl, rfl, rfl, by decide +kernel, rfl, by decide +kernel, by decide +kernel⟩

def spOpp (K : PySem.W.Frag) : Sp := fun vs H Q _ => ∃ (v : V) (s : Sm), vs = [v] ∧ SumIn K H v s ∧ s.1.length ≤ 1000 ∧ ∀ H' v', Same H H' → SumIn K H' v' (s.1.map (fun n => -n), 1 - s.2) → Q v' H'
theorem ok_opposite {f : Addr} {fd : FuncData} {k : Nat} (F : Fun K "opposite" "opposite" s_opposite f fd) (B : Bl mg) : FnOk P w K mg base CX0 (k + 1) f fd ["one"] (spOpp K) := by
  refine F.ok sc_opposite (fun vs H Q E h => ?_) (fun cdv A outer s H vs Q E hr h => ?_)
  · obtain ⟨v, s, rfl, _⟩ := h
    rfl
  obtain ⟨v, ⟨ns, m⟩, rfl, ⟨a, t, rfl, h1, h2⟩, hz, q⟩ := h
  dsimp only at h1 h2 hz q
  refine ⟨_, (pss_cons (ps_asg (pv 0) (kT2 (K := K) rfl rfl (pg_name (i := 1) sc_opposite.nd rfl (.inl rfl)) (pg_name (i := 2) sc_opposite.nd rfl (.inl rfl))))
    (pss_one (ps_ret (pe_tup (pa_cons (pe_callTy (kTup (K := K) rfl) (by rfl) B.tuple (by decide +kernel) (pa_cons (pe_lc (own := [("number", 3)]) rfl sc_opposite.nd (kTup_ (K := K) rfl (pv 1)) (blkOk_by (own := [("number", 3)]) (N := ["one", "numbers", "last", "number"]) (sc := defScope s_opposite) (by decide +kernel)) (fun _ _ _ _ _ => (pgN (i := 3) sc_opposite.nd rfl (.inl rfl) (.inr rfl))) (fun _ _ _ _ _ => pts_nil) (fun _ _ _ _ _ => (pe_un un_neg (pv 3)))) pa_nil)) (pa_cons (pe_op op_sub pe_int (pv 2)) pa_nil)))))), ?_⟩
  refine ⟨_, rfl, _, _, rfl, h1, rfl, _, _, rfl, _, _, rfl, rfl, ?_⟩
  refine ⟨_, rfl, _, rfl, ⟨_, h2⟩, fun D nD => ?_⟩
  refine lc_it walk_tup (Made H D (RI fun i => -(ns[i]?.getD 0))) (made0 nD) (fun i H1 _ p => tupS p.same h2) (fun i x H1 H2 hi p y => ?_) (fun H1 p => ?_)
  · obtain ⟨rfl, e1⟩ := y
    have hi' : i < ns.length := by simpa using hi
    have f1 := mapAt e1 hi'
    subst f1
    refine ⟨rfl, ?_⟩
    refine lcYes ?_
    refine ⟨_, rfl, _, rfl, ?_⟩
    exact p.push nD (stRI _) (by omega) (Same.refl _) (by simp [RI, hi'])
  · obtain ⟨g, sm⟩ := madeRI p
    refine ⟨_, _, rfl, .inl ⟨.of g, fun T nT => ⟨_, rfl, _, _, rfl, rfl, by show 2 ≤ sizeLine; decide, fun U nU => ?_⟩⟩⟩
    refine q _ _ (Same.trans sm (Same.trans (sameNew nT) (sameNew nU))) ⟨U, T, rfl, .of upd_same, ?_⟩
    refine tupS (sameNew nU) (.of ?_)
    rw [upd_same, List.length_map]
    congr 3
    apply List.ext_getElem?
    intro j
    by_cases hj : j < ns.length
    · simp [hj]
    · simp [hj]

end

end LW

namespace LW
open PySem PySem.Spec PyProof.Rows L2
/-! ### put_in, in plain lists -/
def stepP (acc : Sm) (p : Int × Sm) : Sm := (List.zipWith (fun b y => b + p.1 * y) acc.1 p.2.1, acc.2 + p.1 * p.2.2)
def widthOf (bs : List Sm) : Nat := (bs.headD ([], 0)).1.length
def putIn (s : Sm) (bs : List Sm) : Sm := (s.1.zip bs).foldl stepP (List.replicate (widthOf bs) 0, s.2)
theorem stepP_len {acc : Sm} {p : Int × Sm} {k : Nat} (h : acc.1.length = k) (h' : p.2.1.length = k) : (stepP acc p).1.length = k := by
  simp [stepP, h, h']
theorem dot_step : ∀ (a b xs : List Int) (n : Int), a.length = b.length → dot (List.zipWith (fun p q => p + n * q) a b) xs = dot a xs + n * dot b xs
  | [], [], xs, n, _ => by simp [dot]
  | a :: r, b :: t, [], n, _ => by simp [dot]
  | a :: r, b :: t, x :: xs, n, h => by
    have ih := dot_step r t xs n (by simpa using h)
    simp only [List.zipWith_cons_cons, dot, ih, Int.add_mul, Int.mul_add, Int.mul_assoc]
    omega
  | [], _ :: _, _, _, h => by simp at h
  | _ :: _, [], _, _, h => by simp at h
theorem dot_zero : ∀ (k : Nat) (xs : List Int), dot (List.replicate k 0) xs = 0
  | 0, _ => by simp [dot]
  | k + 1, [] => by simp [List.replicate_succ, dot]
  | k + 1, x :: xs => by simp [List.replicate_succ, dot, dot_zero k xs]
theorem fold_val {k : Nat} (xs : List Int) : ∀ (ps : List (Int × Sm)) (acc : Sm), acc.1.length = k → (∀ p ∈ ps, p.2.1.length = k) →
    val (ps.foldl stepP acc) xs = val acc xs + dot (ps.map (·.1)) (ps.map fun p => val p.2 xs)
  | [], acc, _, _ => by simp [dot]
  | p :: r, acc, h, hp => by
    have hl := hp p (List.mem_cons_self ..)
    rw [List.foldl_cons, fold_val xs r (stepP acc p) (stepP_len h hl) fun q hq => hp q (List.mem_cons_of_mem _ hq)]
    simp only [List.map_cons, dot, val, stepP]
    rw [dot_step _ _ _ _ (h.trans hl.symm), Int.mul_add]
    omega
theorem put_val {s : Sm} {bs : List Sm} {xs : List Int} (hl : s.1.length = bs.length) (hw : ∀ b ∈ bs, b.1.length = widthOf bs) : val (putIn s bs) xs = val s (bs.map fun b => val b xs) := by
  unfold putIn
  rw [fold_val (k := widthOf bs) xs _ _ (by simp) fun p hp => hw _ (List.of_mem_zip hp).2]
  have e1 : (s.1.zip bs).map (·.1) = s.1 := by rw [List.map_fst_zip]; omega
  have e2 : (s.1.zip bs).map (fun p => val p.2 xs) = bs.map fun b => val b xs := by
    have q : (s.1.zip bs).map (fun p => val p.2 xs) = ((s.1.zip bs).map (·.2)).map fun b => val b xs := by rw [List.map_map]; rfl
    rw [q, List.map_snd_zip]
    omega
  rw [e1, e2]
  simp only [val, dot_zero]
  omega
theorem put_len {s : Sm} {bs : List Sm} (hw : ∀ b ∈ bs, b.1.length = widthOf bs) : (putIn s bs).1.length = widthOf bs := by
  have key : ∀ (ps : List (Int × Sm)) (acc : Sm) (k : Nat), acc.1.length = k → (∀ p ∈ ps, p.2.1.length = k) → (ps.foldl stepP acc).1.length = k := by
    intro ps
    induction ps with
    | nil => exact fun acc k h _ => h
    | cons p r ih => exact fun acc k h hp => ih _ k (stepP_len h (hp p (List.mem_cons_self ..))) fun q hq => hp q (List.mem_cons_of_mem _ hq)
  exact key _ _ _ (by simp) fun p hp => hw _ (List.of_mem_zip hp).2
/-- the numbers, one by one -/
theorem put_at {s : Sm} {bs : List Sm} (hw : ∀ b ∈ bs, b.1.length = widthOf bs) {j : Nat} (hj : j < widthOf bs) :
    (putIn s bs).1[j]? = some (((s.1.zip bs).map fun p => p.1 * (p.2.1[j]?.getD 0)).sum) := by
  have key : ∀ (ps : List (Int × Sm)) (acc : Sm) (x : Int), acc.1[j]? = some x → (∀ p ∈ ps, j < p.2.1.length) → (ps.foldl stepP acc).1[j]? = some (x + (ps.map fun p => p.1 * (p.2.1[j]?.getD 0)).sum) := by
    intro ps
    induction ps with
    | nil =>
      intro acc x h _
      simp [h]
    | cons p r ih =>
      intro acc x h hp
      have hl := hp p (List.mem_cons_self ..)
      have e : (stepP acc p).1[j]? = some (x + p.1 * (p.2.1[j]?.getD 0)) := by
        simp only [stepP, List.getElem?_zipWith, h, List.getElem?_eq_getElem hl, Option.getD_some]
      rw [List.foldl_cons, ih _ _ e fun q hq => hp q (List.mem_cons_of_mem _ hq), List.map_cons, List.sum_cons, Int.add_assoc]
  have q := key (s.1.zip bs) (List.replicate (widthOf bs) 0, s.2) 0 (by simp [hj]) fun p hp => by
    rw [hw _ (List.of_mem_zip hp).2]
    exact hj
  rw [putIn, q, Int.zero_add]
theorem put_last (s : Sm) (bs : List Sm) : (putIn s bs).2 = s.2 + ((s.1.zip bs).map fun p => p.1 * p.2.2).sum := by
  have key : ∀ (ps : List (Int × Sm)) (acc : Sm), (ps.foldl stepP acc).2 = acc.2 + (ps.map fun p => p.1 * p.2.2).sum := by
    intro ps
    induction ps with
    | nil => exact fun acc => by simp
    | cons p r ih =>
      intro acc
      rw [List.foldl_cons, ih, List.map_cons, List.sum_cons]
      simp only [stepP]
      omega
  exact key _ _

end LW

namespace LW
open PySem PySem.Spec PyProof.Rows L2
local macro_rules | `(tactic| walk_at "go1") => `(tactic| first
  | refine ⟨_, rfl, ?_⟩
  | refine ⟨_, _, rfl, rfl, ?_⟩
  | refine ⟨show (0 : Int) < _ from by omega, ?_⟩
  | refine ⟨show CMul _ _ from by first | exact .inl ⟨by omega, by omega⟩ | exact .inr ⟨by omega, by omega⟩, ?_⟩
  | refine ⟨show CDiv _ _ from ⟨by omega, by omega⟩, ?_⟩)
local macro_rules | `(tactic| walk_at "go") => `(tactic| repeat walk_at "go1")

section
variable {P : Program} {w : World} {K : PySem.W.Frag} {mg : Str → Option Value} {base : Heap}

/-- the numbers of the sums, as the columns give them -/
def colS (bs : List Sm) (j : Nat) : List Int := bs.map fun b => b.1[j]?.getD 0
theorem putCols {s : Sm} {bs : List Sm} (hw : ∀ b ∈ bs, b.1.length = widthOf bs) : putIn s bs = ((List.range (widthOf bs)).map fun j => val (s.1, 0) (colS bs j), val s (bs.map (·.2))) := by
  have key : ∀ (a : List Int) (bs : List Sm) (f : Sm → Int), ((a.zip bs).map fun p => p.1 * f p.2).sum = dot a (bs.map f) := by
    intro a
    induction a with
    | nil => intro bs f; simp [dot]
    | cons x r ih =>
      intro bs f
      cases bs with
      | nil => simp [dot]
      | cons b t => simp [dot, ih]
  refine Prod.ext ?_ ?_
  · apply List.ext_getElem?
    intro j
    by_cases hj : j < widthOf bs
    · rw [put_at hw hj, key s.1 bs fun b => b.1[j]?.getD 0]
      simp [hj, val, colS]
    · rw [List.getElem?_eq_none (by rw [put_len hw]; omega), List.getElem?_eq_none (by simp; omega)]
  · rw [put_last, key s.1 bs fun b => b.2]
    rfl
/-- the inner tuples of the sums -/
def RIn (K : PySem.W.Frag) (bs : List Sm) : Nat → V → Hp → Prop := fun j y H => ∃ (b : Sm) (tb : Addr), bs[j]? = some b ∧ y = .ref tb ∧ SqT K H tb (b.1.map V.int)
theorem stIn (bs : List Sm) : Stable (RIn K bs) := fun _ _ _ _ e ⟨b, tb, h1, h2, h3⟩ => ⟨b, tb, h1, h2, tsTup e h3⟩
theorem refsOf {H : Hp} : ∀ (bs : List Sm) (ys : List V), ys.length = bs.length → (∀ j y, ys[j]? = some y → RIn K bs j y H) → ∃ as : List Addr, ys = as.map V.ref ∧ TupsIn K H as (bs.map fun b => b.1.map V.int)
  | [], [], _, _ => ⟨[], rfl, .nil⟩
  | b :: r, y :: t, hl, h => by
    obtain ⟨as, e, q⟩ := refsOf r t (by simpa using hl) fun j z hz => by
      obtain ⟨b', tb, h1, h2, h3⟩ := h (j + 1) z (by simpa using hz)
      exact ⟨b', tb, by simpa using h1, h2, h3⟩
    obtain ⟨b', tb, h1, h2, h3⟩ := h 0 y rfl
    have : b = b' := by simpa using h1
    subst this
    exact ⟨tb :: as, by rw [h2, e]; rfl, .cons h3 q⟩
  | [], _ :: _, hl, _ => by simp at hl
  | _ :: _, [], hl, _ => by simp at hl
theorem tupsSame {H H' : Hp} (e : Same H H') {as : List Addr} {xss : List (List V)} (h : TupsIn K H as xss) : TupsIn K H' as xss := Paired.mapP h fun _ _ r => tupS e r
abbrev s_put_in : Stmt := topS 28
theorem sc_put_in : FnScope ["one", "boxes", "numbers", "_", "inners", "told", "inner", "column", "more"] ["one", "boxes"] (defScope s_put_in) := ⟨rfl, rfl, rfl, by decide +kernel, rfl, by decide +kernel, by decide +kernel⟩

def spPut (K : PySem.W.Frag) : Sp := fun vs H Q _ => ∃ (v : V) (bl : Addr) (s : Sm) (bvs : List V) (bs : List Sm), vs = [v, .ref bl] ∧ SumIn K H v s ∧ SqL K H bl bvs ∧ SumsIn K H bvs bs ∧ s.1.length = bs.length ∧ 0 < bs.length ∧ bs.length ≤ 3 ∧ widthOf bs ≤ 1000 ∧
  (∀ b ∈ bs, b.1.length = widthOf bs) ∧ (∀ n ∈ s.1, Wd 100000 n) ∧ (∀ b ∈ bs, Wd 100000 b.2 ∧ ∀ n ∈ b.1, Wd 100000 n) ∧ ∀ H' v', Same H H' → SumIn K H' v' (putIn s bs) → Q v' H'
theorem ok_put_in {f : Addr} {fd : FuncData} {k : Nat} (F : Fun K "put_in" "put_in" s_put_in f fd) (B : Bl mg) (c_value : C8.Cal P w K mg base k "value" (spValueA K) []) : FnOk P w K mg base CX0 (k + 1) f fd ["one", "boxes"] (spPut K) := by
  refine F.ok sc_put_in (fun vs H Q E h => ?_) (fun cdv A outer s H vs Q E hr h => ?_)
  · obtain ⟨v, bl, s, bvs, bs, rfl, _⟩ := h
    rfl
  obtain ⟨v, bl, ⟨ns, m⟩, bvs, bs, rfl, hv, hB, hS, hl, hp0, hp1, hw1, hw, w1, w2, q⟩ := h
  obtain ⟨a, t, rfl, h1, h2⟩ := id hv
  dsimp only at h1 h2 hl w1 q
  refine ⟨_, (pss_cons (ps_asg (pv 0) (kT2 (K := K) rfl rfl (pg_name (i := 2) sc_put_in.nd rfl (.inr rfl)) (pg_name (i := 3) sc_put_in.nd rfl (.inl rfl))))
    (pss_cons (ps_setLc (i := 4) (own := [("inner", 6), ("_", 3)]) rfl sc_put_in.nd rfl rfl (sw_true rfl rfl rfl (by decide +kernel)) (kList_ (K := K) rfl (pv 1)) (blkOk_by (own := [("inner", 6), ("_", 3)]) (N := ["one", "boxes", "numbers", "_", "inners", "told", "inner", "column", "more"]) (sc := defScope s_put_in) (by decide +kernel)) (fun _ _ _ _ _ => (pgT2 (K := K) rfl (pgN (i := 6) sc_put_in.nd rfl (.inl rfl) (.inr rfl)) (pgN (i := 3) sc_put_in.nd rfl (.inl rfl) (.inr rfl)) rfl (by rfl) (by rfl) (by rfl) (by rfl))) (fun _ _ _ _ _ => pts_nil) (fun _ _ _ _ _ => (pv 6)))
    (pss_cons (ps_setLc (i := 5) (own := [("column", 7)]) rfl sc_put_in.nd rfl rfl (sw_true rfl rfl rfl (by decide +kernel)) (kZS (K := K) rfl (by rfl) B.zip (pv 4)) (blkOk_by (own := [("column", 7)]) (N := ["one", "boxes", "numbers", "_", "inners", "told", "inner", "column", "more"]) (sc := defScope s_put_in) (by decide +kernel)) (fun _ _ _ _ _ => (pgN (i := 7) sc_put_in.nd rfl (.inl rfl) (.inr rfl))) (fun _ _ _ _ _ => pts_nil) (fun _ _ _ _ _ => (C8.pe_c c_value hr (Nat.le_refl _) (by rfl) (pa_cons (pe_tup (pa_cons (pv 2) (pa_cons pe_int pa_nil))) (pa_cons (pv 7) pa_nil)))))
    (pss_one (ps_ret (pe_tup (pa_cons (pe_callTy (kTup (K := K) rfl) (by rfl) B.tuple (by decide +kernel) (pa_cons (pv 5) pa_nil)) (pa_cons (C8.pe_c c_value hr (Nat.le_refl _) (by rfl) (pa_cons (pv 0) (pa_cons (pe_lc (own := [("_", 3), ("more", 8)]) rfl sc_put_in.nd (kList_ (K := K) rfl (pv 1)) (blkOk_by (own := [("_", 3), ("more", 8)]) (N := ["one", "boxes", "numbers", "_", "inners", "told", "inner", "column", "more"]) (sc := defScope s_put_in) (by decide +kernel)) (fun _ _ _ _ _ => (pgT2 (K := K) rfl (pgN (i := 3) sc_put_in.nd rfl (.inl rfl) (.inr rfl)) (pgN (i := 8) sc_put_in.nd rfl (.inl rfl) (.inr rfl)) rfl (by rfl) (by rfl) (by rfl) (by rfl))) (fun _ _ _ _ _ => pts_nil) (fun _ _ _ _ _ => (pv 8))) pa_nil))) pa_nil)))))))), ?_⟩
  have lb := hS.len
  have up4 : ∀ {n : Nat} {x : Int}, Wd 100000 x → Wd 400000 x := fun h => Wd.mono h (by decide)
  refine ⟨_, rfl, _, _, rfl, h1, rfl, _, _, rfl, _, _, rfl, rfl, ?_⟩
  -- inners
  refine ⟨_, rfl, bl, rfl, ⟨_, hB⟩, fun L nL => ?_⟩
  refine lc_it (walk_list (xs := bvs)) (Made H L (RIn K bs)) (made0 nL) (fun j H1 _ p => Same.seq p.same hB) (fun j x H1 H2 hj p y => ?_) (fun H1 p => ?_)
  · obtain ⟨rfl, ex⟩ := y
    obtain ⟨⟨bn, bm⟩, fb, ab, tb, rfl, g1, g2⟩ := sumsAt hS ex
    dsimp only at g1 g2
    refine ⟨_, _, rfl, tupS p.same g1, rfl, _, _, rfl, _, _, rfl, rfl, rfl, ?_⟩
    refine lcYes ?_
    refine ⟨_, rfl, ?_⟩
    exact p.push nL (stIn bs) (by omega) (Same.refl _) ⟨_, tb, fb, rfl, tupS p.same g2⟩
  obtain ⟨ys, lys, eL, s1, hys⟩ := p
  obtain ⟨as, rfl, hT⟩ := refsOf bs ys (by omega) hys
  have las : as.length = bs.length := by
    have := Paired.length hT
    simpa using this
  -- told
  refine ⟨_, rfl, L, as, _, rfl, .inr (.of eL), hT, by omega, by omega, fun D nD => ?_⟩
  refine lc_it (walkS (n := widthOf bs) (fun xs hx => ?_)) (Made H1 D (RI fun j => val (ns, 0) (colS bs j))) (made0 nD) (fun j H2 _ p => tupsSame p.same hT) (fun j x H2 H3 hj p y => ?_) (fun H2 p => ?_)
  · obtain ⟨b, hb, rfl⟩ := List.mem_map.mp hx
    rw [List.length_map]
    exact hw b hb
  · obtain ⟨T, rfl, nT, rfl⟩ := y
    have ecol : colV (bs.map fun b => b.1.map V.int) j = (colS bs j).map V.int := by
      simp only [colV, colS, List.map_map]
      apply List.map_congr_left
      intro b hb
      have : j < b.1.length := by rw [hw b hb]; exact hj
      simp [List.getD, this]
    rw [ecol]
    refine ⟨rfl, ?_⟩
    refine lcYes ?_
    refine ⟨_, rfl, by show 2 ≤ sizeLine; decide, fun U nU => ?_⟩
    have sU := Same.trans (sameNew (o := .tup ((colS bs j).map V.int)) nT) (sameNew (o := .tup [.ref t, .int 0]) nU)
    refine ⟨_, rfl, _, T, (ns, 0), colS bs j, rfl, ⟨U, t, rfl, .of upd_same, tupS (Same.trans s1 (Same.trans p.same sU)) h2⟩, .inr (tupS (sameNew nU) (.of upd_same)), by simp [colS, hl], by simp [colS]; omega, fun n hn => up4 (n := 0) (w1 n hn), fun x hx => ?_, fun H4 s4 => ?_⟩
    · obtain ⟨b, hb, rfl⟩ := List.mem_map.mp hx
      have : j < b.1.length := by rw [hw b hb]; exact hj
      rw [List.getElem?_eq_getElem this]
      exact up4 (n := 0) ((w2 b hb).2 _ (List.getElem_mem _))
    · exact p.push nD (stRI _) (by omega) (Same.trans sU s4) rfl
  obtain ⟨eD, s2⟩ := madeRI p
  have s12 := Same.trans s1 s2
  refine ⟨_, rfl, _, _, rfl, .inl ⟨.of eD, fun T nT => ?_⟩⟩
  have s3 := Same.trans s12 (sameNew (o := .tup (((List.range (widthOf bs)).map fun j => val (ns, 0) (colS bs j)).map V.int)) nT)
  refine ⟨_, rfl, _, rfl, bl, rfl, ⟨_, Same.seq s3 hB⟩, fun D2 nD2 => ?_⟩
  refine lc_it (walk_list (xs := bvs)) (Made _ D2 (RI fun j => ((bs.map (·.2))[j]?.getD 0))) (made0 nD2) (fun j H4 _ p => Same.seq p.same (Same.seq s3 hB)) (fun j x H4 H5 hj p y => ?_) (fun H4 p => ?_)
  · obtain ⟨rfl, ex⟩ := y
    obtain ⟨⟨bn, bm⟩, fb, ab, tb, rfl, g1, g2⟩ := sumsAt hS ex
    dsimp only at g1 g2
    refine ⟨_, _, rfl, tupS p.same (tupS s3 g1), rfl, _, _, rfl, _, _, rfl, rfl, rfl, ?_⟩
    refine lcYes ?_
    refine ⟨_, rfl, ?_⟩
    exact p.push nD2 (stRI _) (by omega) (Same.refl _) (by simp [RI, fb])
  obtain ⟨eD2, s4⟩ := madeRI p
  have e2 : (List.range bvs.length).map (fun j => ((bs.map (·.2))[j]?.getD 0)) = bs.map (·.2) := by
    apply List.ext_getElem?
    intro j
    by_cases hj : j < bs.length
    · simp [lb, hj]
    · rw [List.getElem?_eq_none (by simp; omega), List.getElem?_eq_none (by simp; omega)]
  rw [e2] at eD2
  have sA := Same.trans s3 s4
  refine ⟨_, D2, (ns, m), bs.map (·.2), rfl, SumIn.mono sA hv, .inl (.of eD2), by simp [hl], by simp; omega, fun n hn => up4 (n := 0) (w1 n hn), fun x hx => ?_, fun H5 s5 => ?_⟩
  · obtain ⟨b, hb, rfl⟩ := List.mem_map.mp hx
    exact up4 (n := 0) (w2 b hb).1
  refine ⟨by show 2 ≤ sizeLine; decide, fun W nW => ?_⟩
  refine q _ _ (Same.trans sA (Same.trans s5 (sameNew nW))) ?_
  rw [putCols hw]
  exact ⟨W, T, rfl, .of upd_same, tupS (Same.trans s4 (Same.trans s5 (sameNew nW))) (.of upd_same)⟩

end

end LW

namespace LW
open PySem PySem.Spec PyProof.Rows L2
local macro_rules | `(tactic| walk_at "go1") => `(tactic| first
  | refine ⟨_, rfl, ?_⟩
  | refine ⟨_, _, rfl, rfl, ?_⟩
  | refine ⟨show (0 : Int) < _ from by omega, ?_⟩
  | refine ⟨show CMul _ _ from by first | exact .inl ⟨by omega, by omega⟩ | exact .inr ⟨by omega, by omega⟩, ?_⟩
  | refine ⟨show CDiv _ _ from ⟨by omega, by omega⟩, ?_⟩)
local macro_rules | `(tactic| walk_at "go") => `(tactic| repeat walk_at "go1")

section
variable {P : Program} {w : World} {K : PySem.W.Frag} {mg : Str → Option Value} {base : Heap}

/-- the numbers of a sum over so many boxes in which one counts -/
def unitN (n : Int) (b m : Nat) : List Int := (List.range m).map fun at_ => if at_ = b then n else 0
theorem unit_len (n : Int) (b m : Nat) : (unitN n b m).length = m := by simp [unitN]
abbrev s__of_one_box : Stmt := topS 46
theorem sc__of_one_box : FnScope ["number", "box", "many", "at"] ["number", "box", "many"] (defScope s__of_one_box) := ⟨rfl, rfl, rfl, by decide +kernel, rfl, by decide +kernel, by decide +kernel⟩

def spOne (K : PySem.W.Frag) : Sp := fun vs H Q _ => ∃ (n : Int) (b m : Nat), vs = [.int n, .int (b : Int), .int (m : Int)] ∧ m ≤ 1000 ∧ ∀ (r : Addr) (H' : Hp), Same H H' → SqT K H' r ((unitN n b m).map V.int) → Q (.ref r) H'
theorem ok__of_one_box {f : Addr} {fd : FuncData} {k : Nat} (F : Fun K "_of_one_box" "_of_one_box" s__of_one_box f fd) (B : Bl mg) : FnOk P w K mg base CX0 (k + 1) f fd ["number", "box", "many"] (spOne K) := by
  refine F.ok sc__of_one_box (fun vs H Q E h => ?_) (fun cdv A outer s H vs Q E hr h => ?_)
  · obtain ⟨n, b, m, rfl, _⟩ := h
    rfl
  obtain ⟨n, b, m, rfl, hm, q⟩ := h
  refine ⟨_, (pss_one (ps_ret (pe_callTy (kTup (K := K) rfl) (by rfl) B.tuple (by decide +kernel) (pa_cons (pe_lc (own := [("at", 3)]) rfl sc__of_one_box.nd (pi_range1 (by rfl) B.range (pa_cons (pv 2) pa_nil)) (blkOk_by (own := [("at", 3)]) (N := ["number", "box", "many", "at"]) (sc := defScope s__of_one_box) (by decide +kernel)) (fun _ _ _ _ _ => (pgN (i := 3) sc__of_one_box.nd rfl (.inl rfl) (.inr rfl))) (fun _ _ _ _ _ => pts_nil) (fun _ _ _ _ _ => (pe_ifExp (pt_cmpR op_eq (pv 3) (pv 1) (nomark _)) (pv 0) pe_int))) pa_nil)))), ?_⟩
  refine ⟨_, rfl, _, rfl, by omega, by omega, fun D nD => ?_⟩
  refine lc_it walk_range (Made H D (RI fun i => if i = b then n else 0)) (made0 nD) (fun _ _ _ _ => trivial) (fun i x H1 H2 hi p y => ?_) (fun H1 p => ?_)
  · obtain ⟨rfl, rfl⟩ := y
    refine ⟨rfl, ?_⟩
    refine lcYes ?_
    have ei : (0 : Int) + (i : Int) = (i : Int) := by omega
    refine ⟨_, rfl, _, rfl, rfl, _, rfl, ?_⟩
    refine ite2 (fun e => ?_) (fun e => ?_)
    · have e' := of_decide_eq_true e
      injection e' with e'
      have : i = b := by omega
      exact ⟨_, rfl, p.push nD (stRI _) (by omega) (Same.refl _) (by simp [RI, this])⟩
    · have : i ≠ b := fun z => e (decide_eq_true (by subst z; exact congrArg V.int (by omega)))
      exact p.push nD (stRI _) (by omega) (Same.refl _) (by simp [RI, this])
  obtain ⟨eD, s1⟩ := madeRI p
  refine ⟨_, _, rfl, .inl ⟨.of eD, fun r nr => ?_⟩⟩
  refine q r _ (Same.trans s1 (sameNew nr)) ?_
  have e2 : ((m : Int)).toNat = m := by omega
  rw [e2]
  exact .of upd_same
/-- what is asked at a say or a loop -/
def bnd (tops : List Int) : List Sm := tops.zipIdx.flatMap fun q => [(unitN (-1) q.2 tops.length, 0), (unitN 1 q.2 tops.length, -q.1)]
/-- the bounds of the first boxes -/
def bnd' (m : Nat) (l : List Int) : List Sm := l.zipIdx.flatMap fun q => [(unitN (-1) q.2 m, 0), (unitN 1 q.2 m, -q.1)]
theorem bnd_eq (tops : List Int) : bnd tops = bnd' tops.length tops := rfl
theorem bnd_take {m : Nat} {l : List Int} {j : Nat} {x : Int} (e : l[j]? = some x) : bnd' m (l.take (j + 1)) = bnd' m (l.take j) ++ [(unitN (-1) j m, 0), (unitN 1 j m, -x)] := by
  obtain ⟨hj, e1⟩ := List.getElem?_eq_some_iff.mp e
  subst e1
  rw [bnd', bnd', List.take_succ_eq_append_getElem hj, List.zipIdx_append, List.flatMap_append]
  congr 1
  simp [List.length_take, Nat.min_eq_left (Nat.le_of_lt hj)]
def askP (tops : List Int) : Rs → List Sm
  | .say w _ => [w]
  | .loop _ ws _ _ => ws ++ bnd tops
  | _ => []
theorem bnd_key : ∀ (l : List (Int × Nat)) (m : Nat), (l.flatMap fun q => [((unitN (-1) q.2 m, 0) : Sm), (unitN 1 q.2 m, -q.1)]).length = 2 * l.length := by
  intro l m
  induction l with
  | nil => rfl
  | cons q r ih => rw [List.flatMap_cons, List.length_append, ih, List.length_cons]; simp; omega
theorem bnd_len (tops : List Int) : (bnd tops).length = 2 * tops.length := by
  rw [bnd, bnd_key, List.length_zipIdx]
theorem unit_wd {n : Int} {b m : Nat} (h : -1 ≤ n ∧ n ≤ 1) : ∀ x ∈ unitN n b m, Wd 8 x := fun x hx => by
  obtain ⟨j, _, rfl⟩ := List.mem_map.mp hx
  split <;> exact wdSm (by omega) (by omega)
theorem ask_good {tops : List Int} {rs : Rs} (ht : TopsW tops) (hw : rs.W tops.length) : ∀ s ∈ askP tops rs, s.1.length = tops.length ∧ Wd 8 s.2 ∧ ∀ x ∈ s.1, Wd 8 x := fun s hs => by
  cases rs with
  | say w t =>
    rw [List.mem_singleton.mp hs]
    exact sumW_wd hw.1
  | loop w ws b t =>
    rcases List.mem_append.mp hs with hs | hs
    · exact sumW_wd (hw.2.1 s hs)
    · obtain ⟨⟨top, i⟩, hq, hs⟩ := List.mem_flatMap.mp hs
      have mt : top ∈ tops := by
        have := List.mem_zipIdx_iff_getElem?.mp hq
        exact List.mem_of_getElem? this
      have h9 := ht.2.2 top mt
      rcases List.mem_cons.mp hs with rfl | hs
      · exact ⟨unit_len .., wdSm (by omega) (by omega), unit_wd (by omega)⟩
      · rw [List.mem_singleton.mp hs]
        exact ⟨unit_len .., wdSm (by dsimp only; omega) (by dsimp only; omega), unit_wd (by omega)⟩
  | _ => cases hs
theorem pgT {H : Hp} {C x : Addr} {tops : List Int} {R : Rs} (h : PgIn K H C x tops R) : R.W tops.length ∧ TopsW tops ∧ R.num ≤ 12 ∧ R.dep ≤ 3 := by
  obtain ⟨_, _, _, _, _, _, h1, h2, h3, h4⟩ := h
  exact ⟨h1, h4, h3, h2⟩
theorem PgIn.pr {H : Hp} {C x : Addr} {tops : List Int} {R : Rs} (h : PgIn K H C x tops R) : ∃ rv, PrIn K H C x tops rv := by
  obtain ⟨a, _, h1, _⟩ := h
  exact ⟨_, h1⟩
theorem sumsDin {H : Hp} : ∀ {vs : List V} {ss : List Sm}, DinA K H vs (ss.map dSm) → A2 (SumIn K H) vs ss
  | _, [], .nil => .nil
  | _, _ :: _, .cons h t => .cons (sumDin h) (sumsDin t)
theorem sumsS {H H' : Hp} {vs : List V} {ss : List Sm} (e : TS H H') (h : A2 (SumIn K H) vs ss) : A2 (SumIn K H') vs ss := A2.map (B' := ss) (fun _ _ _ r => tsSum e r) (fun _ m => m) h
theorem a2p {α β : Type} {S : α → β → Prop} : ∀ {a : List α} {b : List β}, A2 S a b → Paired S a b
  | _, _, .nil => .nil
  | _, _, .cons h t => .cons h (a2p t)
theorem lkTopsNo {a b : V} {s : Str} (h1 : (s == ("_tops" : Str)) = false) (h2 : (s == ("rows" : Str)) = false) : List.lookup s ([(("_tops" : Str), a), (("rows" : Str), b)] : List (Str × V)) = none := by simp [List.lookup, h1, h2]
abbrev s_asked : Stmt := topS 40
theorem sc_asked : FnScope ["program", "place", "row", "tops", "told", "box", "top"] ["program", "place"] (defScope s_asked) := ⟨rfl, rfl, rfl, by decide +kernel, rfl, by decide +kernel, by decide +kernel⟩

def spAsked (K : PySem.W.Frag) (C : Addr) : Sp := fun vs H Q _ => ∃ (x pa : Addr) (tops : List Int) (R : Rs) (p : Pos'), vs = [.ref x, .ref pa] ∧ PgIn K H C x tops R ∧ At R p.ah p.i p.rs p.fr ∧ ((∃ w t, p.rs = .say w t) ∨ ∃ w ws b t, p.rs = .loop w ws b t) ∧ SqT K H pa (nats (p.ah ++ [p.i])) ∧
  ∀ (l : Addr) (us : List V) (H' : Hp), H l = none → Same H H' → H' l = some (.lst us) → A2 (SumIn K H') us (askP tops p.rs) → Q (.ref l) H'
theorem ok_asked {f C : Addr} {fd : FuncData} {k : Nat} (F : Fun K "asked" "asked" s_asked f fd) (B : Bl mg) (qcl : Cls K C) (q_row : CalM P w K mg base (k + 1) C "row" (spRowAt K C)) (q_tops : CalP P w K mg base k C "tops" (spTopsP K C)) (c__of_one_box : C8.Cal P w K mg base (k + 1) "_of_one_box" (spOne K) []) : FnOk P w K mg base CX0 (k + 2) f fd ["program", "place"] (spAsked K C) := by
  refine F.ok sc_asked (fun vs H Q E h => ?_) (fun cdv A outer s H vs Q E hr h => ?_)
  · obtain ⟨x, pa, tops, R, p, rfl, _⟩ := h
    rfl
  obtain ⟨x, pa, tops, R, ⟨ah, i, rs, fr⟩, rfl, hP, hA, hk, hp, q⟩ := h
  dsimp only at hA hk hp q
  refine ⟨_, (pss_cons (ps_set (i := 2) sc_asked.nd rfl (.inl rfl) (pM q_row qcl hr (by omega) (pv 0) (pa_cons (pv 1) pa_nil)))
    (pss_cons (ps_if (pt_cmpR op_eq (pe_ix (kIxT (K := K) rfl) (pv 2) pe_int (fun _ _ => rfl)) pe_str (nomark _))
      (pss_one (ps_ret (pe_lst (pa_cons (pe_ix (kIxT (K := K) rfl) (pv 2) pe_int (fun _ _ => rfl)) pa_nil))))
      pss_nil)
    (pss_cons (ps_set (i := 3) sc_asked.nd rfl (.inl rfl) (pP q_tops qcl hr (by omega) (pv 0)))
    (pss_cons (ps_set (i := 4) sc_asked.nd rfl (.inl rfl) (pe_callTy (kList (K := K) rfl) (by rfl) B.list (by decide +kernel) (pa_cons (pe_ix (kIxT (K := K) rfl) (pv 2) pe_int (fun _ _ => rfl)) pa_nil)))
    (pss_cons (ps_for PassesOwn.never rfl (kE (K := K) rfl false (by rfl) B.enumerate (pa_cons (pv 3) pa_nil)) (kT2 (K := K) rfl rfl (pg_name (i := 5) sc_asked.nd rfl (.inl rfl)) (pg_name (i := 6) sc_asked.nd rfl (.inl rfl)))
      (pss_cons (ps_expr (pe_bm PySem.F.plainAttrs_list PySem.F.slot_list_append PySem.F.type_list_append mt_append (pv 4) (pa_cons (pe_tup (pa_cons (C8.pe_c c__of_one_box hr (Nat.le_refl _) (by rfl) (pa_cons (pe_un un_neg pe_int) (pa_cons (pv 5) (pa_cons (pe_callB (kLen (K := K) rfl) (by rfl) B.len PySem.boot_len (pa_cons (pv 3) pa_nil)) pa_nil)))) (pa_cons pe_int pa_nil))) pa_nil)))
      (pss_one (ps_expr (pe_bm PySem.F.plainAttrs_list PySem.F.slot_list_append PySem.F.type_list_append mt_append (pv 4) (pa_cons (pe_tup (pa_cons (C8.pe_c c__of_one_box hr (Nat.le_refl _) (by rfl) (pa_cons pe_int (pa_cons (pv 5) (pa_cons (pe_callB (kLen (K := K) rfl) (by rfl) B.len PySem.boot_len (pa_cons (pv 3) pa_nil)) pa_nil)))) (pa_cons (pe_un un_neg (pv 6)) pa_nil))) pa_nil))))))
    (pss_one (ps_ret (pv 4)))))))), ?_⟩
  obtain ⟨dx, tt, aa, hx⟩ := hP.obj
  have n : rs.isNil = false := by rcases hk with ⟨_, _, rfl⟩ | ⟨_, _, _, _, rfl⟩ <;> rfl
  refine ⟨_, rfl, x, dx, _, rfl, hx, lkRow, _, rfl, rowSp (E := C8.E0) hP hA n hp fun H1 v s1 hv => ?_⟩
  rcases hk with ⟨w, t, rfl⟩ | ⟨w, ws, b, t, rfl⟩
  · cases hv with
    | @tup ra rx _ hR hRA =>
    cases hRA with
    | cons k0 kA =>
    cases k0
    cases kA with
    | cons k1 kA =>
    cases kA
    refine ⟨_, rfl, _, _, _, _, rfl, rfl, hR, atI_nat (j := 0) rfl, rfl, _, rfl, ?_⟩
    refine yesDec (fun c => ?_) (fun c => absurd (strEq.mpr rfl) c)
    refine ⟨_, rfl, _, _, _, _, rfl, rfl, hR, atI_nat (j := 1) rfl, by show 1 ≤ sizeLine; decide, fun l nl => ?_⟩
    exact q l _ _ (Same.free s1 nl) (Same.trans s1 (sameNew nl)) upd_same (.cons (SumIn.mono (sameNew nl) (sumDin k1)) .nil)
  · cases hv with
    | @tup ra rx _ hR hRA =>
    cases hRA with
    | cons k0 kA =>
    cases k0
    cases kA with
    | cons k1 kA =>
    cases kA with
    | cons k2 kA =>
    refine ⟨_, rfl, _, _, _, _, rfl, rfl, hR, atI_nat (j := 0) rfl, rfl, _, rfl, ?_⟩
    refine yesDec (fun c => absurd (strEq.mp c) (by decide +kernel)) (fun c => ?_)
    cases k2 with
    | @tup wa wx _ hWT hWA =>
    have hWs := sumsDin hWA
    obtain ⟨hRW, hTW, _, _⟩ := pgT hP
    have lws : ws.length ≤ 3 := (hA.w hRW).2.2.1
    obtain ⟨rv, hpr⟩ := (hP.same s1).pr
    refine ⟨_, rfl, x, dx, _, rfl, s1 _ _ hx, x, tops, rv, rfl, hpr, fun tl H2 ntl s2 htl => ?_⟩
    have s02 := Same.trans s1 s2
    refine ⟨_, rfl, _, _, _, _, rfl, rfl, tupS s2 hR, atI_nat (j := 2) rfl, wa, wx, rfl, .inr (tupS s2 hWT), fun L nL => ?_⟩
    have sL := sameNew (o := .lst wx) nL
    have nL0 : H L = none := Same.free s02 nL
    have htl3 : upd H2 L (.lst wx) tl = some (.lst (tops.map V.int)) := sL _ _ htl
    have nLt : tl ≠ L := fun e => by rw [e, nL] at htl; cases htl
    refine ⟨_, rfl, tl, _, rfl, .of htl3, ?_⟩
    have lwx := hWs.len
    have lt3 := hTW.2.1
    have szl : (1000 : Nat) < sizeLine := by decide
    refine for_it (walkE (b := false) (xs := tops.map V.int)) (fun j σ H' => ∃ (us : List V) (y5 y6 : Option V), σ = [some (.ref x), some (.ref pa), some (.ref ra), some (.ref tl), some (.ref L), y5, y6] ∧ Same H H' ∧ H' tl = some (.lst (tops.map V.int)) ∧ H' L = some (.lst us) ∧ A2 (SumIn K H') us (ws ++ bnd' tops.length (tops.take j)))
      ⟨wx, none, none, rfl, sameMut s02 nL0, htl3, upd_same, by simpa [bnd'] using sumsS (tsOf (Same.trans s2 sL)) hWs⟩ (fun j σ H' _ p => ?_) (fun j z σ H3 H4 hj p y => ?_) (fun σ H' p => ?_)
    · obtain ⟨us, y5, y6, rfl, sm, ht, _⟩ := p
      exact .of ht
    · obtain ⟨us, y5, y6, rfl, sm, ht, hl, hu⟩ := p
      obtain ⟨T, x1, x2, rfl, nT, rfl, e1, e2⟩ := y
      cases e1
      have hj1 : j < tops.length := by simpa using hj
      have f2 := mapAt e2 hj1
      subst f2
      have sT := sameNew (o := .tup [.int (j : Nat), .int tops[j]]) nT
      refine ⟨_, _, rfl, .of upd_same, rfl, _, _, rfl, _, _, rfl, rfl, ?_⟩
      have ht5 := sT _ _ ht
      have hl5 := sT _ _ hl
      have sm5 := Same.trans sm sT
      have hu5 := sumsS (tsOf sT) hu
      have lus := hu.len
      have lb : (bnd' tops.length (tops.take j)).length ≤ 6 := by
        have : (bnd' tops.length (tops.take j)).length = 2 * (tops.take j).length := by
          rw [show bnd' tops.length (tops.take j) = (tops.take j).zipIdx.flatMap fun q => [((unitN (-1) q.2 tops.length, 0) : Sm), (unitN 1 q.2 tops.length, -q.1)] from rfl, bnd_key, List.length_zipIdx]
        rw [this, List.length_take]
        omega
      rw [List.length_append] at lus
      generalize upd H3 T (.tup [.int (j : Nat), .int tops[j]]) = H5 at *
      clear hl ht sT nT sm hu
      -- the first one
      refine ⟨_, rfl, .inl ⟨rfl, _, .of hl5⟩, _, rfl, _, rfl, _, rfl, _, _, rfl, .inl (.of ht5), -1, j, tops.length, by simp, by omega, fun r H6 s6 hr => ?_⟩
      refine ⟨by show 2 ≤ sizeLine; decide, fun U nU => ?_⟩
      have sU := sameNew (o := .tup [.ref r, .int 0]) nU
      have s6U := Same.trans s6 sU
      refine ⟨L, us, _, rfl, rfl, s6U _ _ hl5, by omega, ?_⟩
      have t7 : TS H5 (upd (upd H6 U (.tup [.ref r, .int 0])) L (.lst (us ++ [.ref U]))) := TS.trans (tsOf s6U) (tsLst (s6U _ _ hl5))
      have u1 : SumIn K (upd (upd H6 U (.tup [.ref r, .int 0])) L (.lst (us ++ [.ref U]))) (.ref U) (unitN (-1) j tops.length, 0) := ⟨U, r, rfl, tsTup (tsLst (s6U _ _ hl5)) (.of upd_same), tsTup (TS.trans (tsOf sU) (tsLst (s6U _ _ hl5))) hr⟩
      have ht7 : upd (upd H6 U (.tup [.ref r, .int 0])) L (.lst (us ++ [.ref U])) tl = some (.lst (tops.map V.int)) := by rw [upd_ne nLt]; exact s6U _ _ ht5
      have hl7 : upd (upd H6 U (.tup [.ref r, .int 0])) L (.lst (us ++ [.ref U])) L = some (.lst (us ++ [.ref U])) := upd_same
      have sm7 : Same H (upd (upd H6 U (.tup [.ref r, .int 0])) L (.lst (us ++ [.ref U]))) := sameMut (Same.trans sm5 s6U) nL0
      have hu7 := sumsS t7 hu5
      generalize upd (upd H6 U (.tup [.ref r, .int 0])) L (.lst (us ++ [.ref U])) = H7 at *
      clear t7 s6U sU nU s6 hr hl5 ht5 hu5 sm5
      -- the second one
      refine ⟨_, rfl, .inl ⟨rfl, _, .of hl7⟩, _, rfl, _, rfl, _, _, rfl, .inl (.of ht7), 1, j, tops.length, by simp, by omega, fun r2 H8 s8 hr2 => ?_⟩
      refine ⟨_, rfl, _, rfl, by show 2 ≤ sizeLine; decide, fun U2 nU2 => ?_⟩
      have sU2 := sameNew (o := .tup [.ref r2, .int (-tops[j])]) nU2
      have s8U := Same.trans s8 sU2
      refine ⟨L, us ++ [.ref U], _, rfl, rfl, s8U _ _ hl7, by simp; omega, ?_⟩
      have t9 : TS H7 (upd (upd H8 U2 (.tup [.ref r2, .int (-tops[j])])) L (.lst (us ++ [.ref U] ++ [.ref U2]))) := TS.trans (tsOf s8U) (tsLst (s8U _ _ hl7))
      refine ⟨us ++ [.ref U] ++ [.ref U2], _, _, rfl, sameMut (Same.trans sm7 s8U) nL0, by rw [upd_ne nLt]; exact s8U _ _ ht7, upd_same, ?_⟩
      rw [bnd_take (List.getElem?_eq_getElem hj1), ← List.append_assoc]
      have u2 : SumIn K (upd (upd H8 U2 (.tup [.ref r2, .int (-tops[j])])) L (.lst (us ++ [.ref U] ++ [.ref U2]))) (.ref U2) (unitN 1 j tops.length, -tops[j]) := ⟨U2, r2, rfl, tsTup (tsLst (s8U _ _ hl7)) (.of upd_same), tsTup (TS.trans (tsOf sU2) (tsLst (s8U _ _ hl7))) hr2⟩
      have h2 := (sumsS t9 hu7).app (.cons (tsSum t9 u1) (.cons u2 .nil))
      rw [show us ++ [V.ref U, V.ref U2] = us ++ [V.ref U] ++ [V.ref U2] by simp] at h2
      exact h2
    · obtain ⟨us, y5, y6, rfl, sm, ht, hl, hu⟩ := p
      rw [List.length_map, List.take_length, ← bnd_eq] at hu
      exact ⟨_, rfl, q L us H' nL0 sm hl hu⟩

end

end LW

namespace LW
open PySem PySem.Spec PyProof.Rows L2
local macro_rules | `(tactic| walk_at "go1") => `(tactic| first
  | refine ⟨_, rfl, ?_⟩
  | refine ⟨_, _, rfl, rfl, ?_⟩
  | refine ⟨show (0 : Int) < _ from by omega, ?_⟩
  | refine ⟨show CMul _ _ from by first | exact .inl ⟨by omega, by omega⟩ | exact .inr ⟨by omega, by omega⟩, ?_⟩
  | refine ⟨show CDiv _ _ from ⟨by omega, by omega⟩, ?_⟩)
local macro_rules | `(tactic| walk_at "go") => `(tactic| repeat walk_at "go1")

section
variable {P : Program} {w : World} {K : PySem.W.Frag} {mg : Str → Option Value} {base : Heap}

/-- a way in the heap; the lists of it are none of Ls -/
def WayIn (K : PySem.W.Frag) (Ls : List Addr) (H : Hp) (v : V) (x : Option Pos' × St') : Prop := ∃ (t tr bl wl : Addr) (pv : V) (bvs wvs : List V), v = .ref t ∧ SqT K H t [.ref tr, pv, .int (x.2.many : Int), .ref bl, .ref wl] ∧ SqT K H tr (x.2.truths.map V.bl) ∧ PlO K H pv x.1 ∧
  H bl = some (.lst bvs) ∧ A2 (SumIn K H) bvs x.2.boxes ∧ H wl = some (.lst wvs) ∧ A2 (SumIn K H) wvs x.2.words ∧ bl ∉ Ls ∧ wl ∉ Ls
theorem WayIn.same {Ls : List Addr} {H H' : Hp} {v : V} {x : Option Pos' × St'} (e : Same H H') (h : WayIn K Ls H v x) : WayIn K Ls H' v x := by
  obtain ⟨t, tr, bl, wl, pv, bvs, wvs, e0, h1, h2, h3, h4, h5, h6, h7, h8⟩ := h
  exact ⟨t, tr, bl, wl, pv, bvs, wvs, e0, tupS e h1, tupS e h2, h3.same e, e _ _ h4, sumsS (tsOf e) h5, e _ _ h6, sumsS (tsOf e) h7, h8⟩
theorem PlO.ts {H H' : Hp} {v : V} {o : Option Pos'} (e : TS H H') (h : PlO K H v o) : PlO K H' v o := by
  cases o with
  | none => exact h
  | some p =>
    obtain ⟨pa, e0, h1⟩ := h
    exact ⟨pa, e0, tsTup e h1⟩
theorem WayIn.mut {Ls : List Addr} {H : Hp} {L : Addr} {xs ys : List V} {v : V} {x : Option Pos' × St'} (hL : L ∈ Ls) (e : H L = some (.lst xs)) (h : WayIn K Ls H v x) : WayIn K Ls (upd H L (.lst ys)) v x := by
  obtain ⟨t, tr, bl, wl, pv, bvs, wvs, e0, h1, h2, h3, h4, h5, h6, h7, h8, h9⟩ := h
  have t0 : TS H (upd H L (.lst ys)) := tsLst e
  have n1 : bl ≠ L := fun z => h8 (by rw [z]; exact hL)
  have n2 : wl ≠ L := fun z => h9 (by rw [z]; exact hL)
  exact ⟨t, tr, bl, wl, pv, bvs, wvs, e0, tsTup t0 h1, tsTup t0 h2, h3.ts t0, by rw [upd_ne n1]; exact h4, sumsS t0 h5, by rw [upd_ne n2]; exact h6, sumsS t0 h7, h8, h9⟩
theorem WayIn.less {Ls Ms : List Addr} {H : Hp} {v : V} {x : Option Pos' × St'} (h : WayIn K Ls H v x) (l : ∀ a ∈ Ms, H a = none ∨ a ∈ Ls) : WayIn K Ms H v x := by
  obtain ⟨t, tr, bl, wl, pv, bvs, wvs, e0, h1, h2, h3, h4, h5, h6, h7, h8, h9⟩ := h
  refine ⟨t, tr, bl, wl, pv, bvs, wvs, e0, h1, h2, h3, h4, h5, h6, h7, fun z => ?_, fun z => ?_⟩
  · rcases l _ z with e | e
    · rw [e] at h4; cases h4
    · exact h8 e
  · rcases l _ z with e | e
    · rw [e] at h6; cases h6
    · exact h9 e
theorem waysS {Ls : List Addr} {H H' : Hp} {vs : List V} {xs : List (Option Pos' × St')} (e : Same H H') (h : A2 (WayIn K Ls H) vs xs) : A2 (WayIn K Ls H') vs xs := A2.map (B' := xs) (fun _ _ _ r => r.same e) (fun _ m => m) h
theorem waysMut {Ls : List Addr} {H : Hp} {L : Addr} {zs ys : List V} {vs : List V} {xs : List (Option Pos' × St')} (hL : L ∈ Ls) (e : H L = some (.lst zs)) (h : A2 (WayIn K Ls H) vs xs) : A2 (WayIn K Ls (upd H L (.lst ys))) vs xs := A2.map (B' := xs) (fun _ _ _ r => r.mut hL e) (fun _ m => m) h
theorem pIn_eq {n : Nat} {s : Sm} {bs : List Sm} (ln : bs.length = n) (n1 : 1 ≤ n) (hw : ∀ b ∈ bs, b.1.length = n) : widthOf bs = n ∧ putIn s bs = pIn s bs := by
  have wd : widthOf bs = n := by
    cases bs with
    | nil => simp at ln; omega
    | cons b r => exact hw b (List.mem_cons_self ..)
  refine ⟨wd, ?_⟩
  rw [putCols (fun b hb => by rw [wd]; exact hw b hb), pIn, wd, ln]
  congr 1
  apply List.map_congr_left
  intro j _
  simp [val, colS]
theorem putUse {H : Hp} {Q : VK} {E : XK} {v : V} {bl : Addr} {s : Sm} {bvs : List V} {bs : List Sm} {n w : Nat} (hv : SumIn K H v s) (hb : H bl = some (.lst bvs)) (hs : A2 (SumIn K H) bvs bs) (ln : bs.length = n) (n1 : 1 ≤ n) (n3 : n ≤ 3) (gb : GoodB n w bs) (hw : w ≤ 100000)
    (hl : s.1.length = n ∧ Wd 9 s.2 ∧ ∀ x ∈ s.1, Wd 9 x) (q : ∀ (H' : Hp) (v' : V), Same H H' → SumIn K H' v' (pIn s bs) → Q v' H') : spPut K [v, .ref bl] H Q E := by
  obtain ⟨wd, e⟩ := pIn_eq (s := s) ln n1 fun b hb => (gb b hb).1
  exact ⟨v, bl, s, bvs, bs, rfl, hv, .of hb, a2p hs, by rw [hl.1, ln], by omega, by omega, by omega, fun b hb => by rw [wd]; exact (gb b hb).1, fun x hx => (hl.2.2 x hx).mono (by omega), fun b hb => ⟨(gb b hb).2.1.mono hw, fun x hx => ((gb b hb).2.2 x hx).mono hw⟩, fun H' v' s' h' => q H' v' s' (by rw [← e]; exact h')⟩
def wordOf : Rs → Sm
  | .ite w _ _ _ => w
  | .loop w _ _ _ => w
  | .say w _ => w
  | _ => ([], 0)
abbrev s__both : Stmt := topS 45
theorem sc__both : FnScope ["program", "way", "truths", "place", "many", "boxes", "words", "word", "holds", "then"] ["program", "way"] (defScope s__both) := ⟨rfl, rfl, rfl, by decide +kernel, rfl, by decide +kernel, by decide +kernel⟩

def spBoth (K : PySem.W.Frag) (C : Addr) : Sp := fun vs H Q _ => ∃ (x : Addr) (wv : V) (tops : List Int) (R : Rs) (p : Pos') (st : St') (Ls : List Addr), vs = [.ref x, wv] ∧ PgIn K H C x tops R ∧ At R p.ah p.i p.rs p.fr ∧ ((∃ w a b t, p.rs = .ite w a b t) ∨ ∃ w ws b t, p.rs = .loop w ws b t) ∧ WayIn K Ls H wv (some p, st) ∧ GoodSt tops.length 1 st ∧ (∀ L ∈ Ls, H L ≠ none) ∧
  ∀ (l : Addr) (us : List V) (H' : Hp), H l = none → Same H H' → H' l = some (.lst us) → A2 (WayIn K (l :: Ls) H') us [(p.go false, st.turn (wordOf p.rs) false), (p.go true, st.turn (wordOf p.rs) true)] → Q (.ref l) H'
theorem ok__both {f C : Addr} {fd : FuncData} {k : Nat} (F : Fun K "_both" "_both" s__both f fd) (B : Bl mg) (qcl : Cls K C) (q_row : CalM P w K mg base k C "row" (spRowAt K C)) (c_put_in : C8.Cal P w K mg base k "put_in" (spPut K) []) (c_opposite : C8.Cal P w K mg base k "opposite" (spOpp K) []) (c_beyond : C8.Cal P w K mg base k "beyond" (spBeyond K C) []) : FnOk P w K mg base CX0 (k + 1) f fd ["program", "way"] (spBoth K C) := by
  refine F.ok sc__both (fun vs H Q E h => ?_) (fun cdv A outer s H vs Q E hr h => ?_)
  · obtain ⟨x, wv, tops, R, p, st, Ls, rfl, _⟩ := h
    rfl
  obtain ⟨x, wv, tops, R, p, st, Ls, rfl, hP, hA, hk, hw, hg, hLs, q⟩ := h
  obtain ⟨t, tr, bl, wl, pv, bvs, wvs, rfl, h1, h2, ⟨pa, rfl, h3⟩, h4, h5, h6, h7, h8, h9⟩ := hw
  refine ⟨_, (pss_cons (ps_asg (pv 1) (kTn (K := K) rfl rfl (pgs_cons (pg_name (i := 2) sc__both.nd rfl (.inr rfl)) (pgs_cons (pg_name (i := 3) sc__both.nd rfl (.inr rfl)) (pgs_cons (pg_name (i := 4) sc__both.nd rfl (.inr rfl)) (pgs_cons (pg_name (i := 5) sc__both.nd rfl (.inr rfl)) (pgs_cons (pg_name (i := 6) sc__both.nd rfl (.inr rfl)) pgs_nil)))))))
    (pss_cons (ps_set (i := 7) sc__both.nd rfl (.inl rfl) (C8.pe_c c_put_in hr (Nat.le_refl _) (by rfl) (pa_cons (pe_ix (kIxT (K := K) rfl) (pM q_row qcl hr (by omega) (pv 0) (pa_cons (pv 3) pa_nil)) pe_int (fun _ _ => rfl)) (pa_cons (pv 5) pa_nil))))
    (pss_one (ps_ret (pe_lc (own := [("holds", 8), ("then", 9)]) rfl sc__both.nd (kTup_ (K := K) rfl (pe_tup (pa_cons (pe_tup (pa_cons pe_bl (pa_cons (C8.pe_c c_opposite hr (Nat.le_refl _) (by rfl) (pa_cons (pv 7) pa_nil)) pa_nil))) (pa_cons (pe_tup (pa_cons pe_bl (pa_cons (pv 7) pa_nil))) pa_nil)))) (blkOk_by (own := [("holds", 8), ("then", 9)]) (N := ["program", "way", "truths", "place", "many", "boxes", "words", "word", "holds", "then"]) (sc := defScope s__both) (by decide +kernel)) (fun _ _ _ _ _ => (pgT2 (K := K) rfl (pgN (i := 8) sc__both.nd rfl (.inl rfl) (.inr rfl)) (pgN (i := 9) sc__both.nd rfl (.inl rfl) (.inr rfl)) rfl (by rfl) (by rfl) (by rfl) (by rfl))) (fun _ _ _ _ _ => pts_nil) (fun _ _ _ _ _ => (pe_tup (pa_cons (pe_op (kCatT (K := K) rfl) (pv 2) (pe_tup (pa_cons (pv 8) pa_nil))) (pa_cons (C8.pe_c c_beyond hr (Nat.le_refl _) (by rfl) (pa_cons (pv 0) (pa_cons (pv 3) (pa_cons (pv 8) pa_nil)))) (pa_cons (pe_op op_add (pv 4) pe_int) (pa_cons (pv 5) (pa_cons (pe_op op_cat (pv 6) (pe_lst (pa_cons (pv 9) pa_nil))) pa_nil)))))))))))), ?_⟩
  obtain ⟨dx, tt, aa, hx⟩ := hP.obj
  obtain ⟨hRW, hTW, _, _⟩ := pgT hP
  have n : p.rs.isNil = false := by rcases hk with ⟨_, _, _, _, e⟩ | ⟨_, _, _, _, e⟩ <;> rw [e] <;> rfl
  have hWw : SumW tops.length (wordOf p.rs) := by
    have := hA.w hRW
    rcases hk with ⟨_, _, _, _, e⟩ | ⟨_, _, _, _, e⟩ <;> (rw [e] at this ⊢; exact this.1)
  have szl : (100000 : Nat) < sizeLine := by decide
  have lwv : wvs.length = st.words.length := h7.len
  refine ⟨_, rfl, _, _, rfl, h1, rfl, _, _, rfl, _, _, rfl, _, _, rfl, _, _, rfl, _, _, rfl, rfl, ?_⟩
  refine ⟨_, rfl, x, dx, _, rfl, hx, lkRow, _, rfl, rowSp (E := C8.E0) hP hA n h3 fun H1 v s1 hv => ?_⟩
  -- the word of the row
  obtain ⟨ra, rx, wv0, rfl, hR, e1, hS⟩ : ∃ (ra : Addr) (rx : List V) (wv0 : V), v = .ref ra ∧ SqT K H1 ra rx ∧ rx[1]? = some wv0 ∧ SumIn K H1 wv0 (wordOf p.rs) := by
    rcases hk with ⟨w, a, b, t, e⟩ | ⟨w, ws, b, t, e⟩
    · rw [e] at hv ⊢
      cases hv with
      | @tup ra rx _ hR hRA =>
      cases hRA with
      | cons k0 kA =>
      cases kA with
      | cons k1 kA => exact ⟨ra, _, _, rfl, hR, rfl, sumDin k1⟩
    · rw [e] at hv ⊢
      cases hv with
      | @tup ra rx _ hR hRA =>
      cases hRA with
      | cons k0 kA =>
      cases kA with
      | cons k1 kA => exact ⟨ra, _, _, rfl, hR, rfl, sumDin k1⟩
  obtain ⟨g1, g2, g3, g4, g5, g6⟩ := hg
  refine ⟨_, _, _, _, rfl, rfl, hR, atI_nat (j := 1) e1, _, rfl, putUse (E := C8.E0) hS (s1 _ _ h4) (sumsS (tsOf s1) h5) g2 hTW.1 hTW.2.1 g3 (by omega) (good3 (sumW_wd hWw) (by omega)) fun H2 v2 s2 hv2 => ?_⟩
  have s02 := Same.trans s1 s2
  -- the two
  refine ⟨_, rfl, v2, _, rfl, hv2, by rw [show (pIn (wordOf p.rs) st.boxes).1.length = st.boxes.length by simp [pIn]]; have := hTW.2.1; omega, fun H3 v3 s3 hv3 => ⟨by show 2 ≤ sizeLine; decide, fun T1 nT1 => ?_⟩⟩
  refine ⟨_, rfl, by show 2 ≤ sizeLine; decide, fun T2 nT2 => ⟨by show 2 ≤ sizeLine; decide, fun TT nTT => ⟨TT, rfl, ⟨_, .of upd_same⟩, fun D nD => ?_⟩⟩⟩
  have sT1 := sameNew (o := .tup [.bl false, v3]) nT1
  have sT2 := sameNew (o := .tup [.bl true, v2]) nT2
  have sTT := sameNew (o := .tup [.ref T1, .ref T2]) nTT
  have s3T := Same.trans s3 (Same.trans sT1 (Same.trans sT2 sTT))
  have hT1 : SqT K (upd (upd (upd H3 T1 (.tup [.bl false, v3])) T2 (.tup [.bl true, v2])) TT (.tup [.ref T1, .ref T2])) T1 [.bl false, v3] := tupS (Same.trans sT2 sTT) (.of upd_same)
  have hT2 : SqT K (upd (upd (upd H3 T1 (.tup [.bl false, v3])) T2 (.tup [.bl true, v2])) TT (.tup [.ref T1, .ref T2])) T2 [.bl true, v2] := tupS sTT (.of upd_same)
  have hTT : SqT K (upd (upd (upd H3 T1 (.tup [.bl false, v3])) T2 (.tup [.bl true, v2])) TT (.tup [.ref T1, .ref T2])) TT [.ref T1, .ref T2] := .of upd_same
  have s0T := Same.trans s02 s3T
  have hs2 := SumIn.mono s3T hv2
  have hs3 := SumIn.mono (Same.trans sT1 (Same.trans sT2 sTT)) hv3
  generalize upd (upd (upd H3 T1 (.tup [.bl false, v3])) T2 (.tup [.bl true, v2])) TT (.tup [.ref T1, .ref T2]) = H5 at *
  have nDL : ∀ L ∈ D :: Ls, upd H5 D (.lst []) L ≠ none := fun L hL => by
    rcases List.mem_cons.mp hL with e | hL
    · rw [e, upd_same]; simp
    · intro z
      have := hLs L hL
      cases e : H L with
      | none => exact this e
      | some o => rw [sameNew nD _ _ (s0T _ _ e)] at z; cases z
  refine lc_it (walk_tup (xs := [.ref T1, .ref T2])) (fun j H' => Same H5 H' ∧ ∃ ys : List V, H' D = some (.lst ys) ∧ A2 (WayIn K (D :: Ls) H') ys ([(p.go false, st.turn (wordOf p.rs) false), (p.go true, st.turn (wordOf p.rs) true)].take j))
    ⟨sameNew nD, [], upd_same, .nil⟩ (fun j H1 _ p => tupS p.1 hTT) (fun j y H6 H7 hj w z => ?_) (fun H6 w => ?_)
  · obtain ⟨sm, ys, hD, hY⟩ := w
    obtain ⟨rfl, ey⟩ := z
    have hj2 : j < 2 := hj
    obtain ⟨b, Tj, vj, rfl, hTj, sj, ej⟩ : ∃ (b : Bool) (Tj : Addr) (vj : V), y = .ref Tj ∧ SqT K H5 Tj [.bl b, vj] ∧ SumIn K H5 vj (if b then pIn (wordOf p.rs) st.boxes else opp (pIn (wordOf p.rs) st.boxes)) ∧
        [(p.go false, st.turn (wordOf p.rs) false), (p.go true, st.turn (wordOf p.rs) true)].take (j + 1) = [(p.go false, st.turn (wordOf p.rs) false), (p.go true, st.turn (wordOf p.rs) true)].take j ++ [(p.go b, st.turn (wordOf p.rs) b)] := by
      match j, hj2 with
      | 0, _ =>
        cases ey
        exact ⟨false, T1, v3, rfl, hT1, hs3, rfl⟩
      | 1, _ =>
        cases ey
        exact ⟨true, T2, v2, rfl, hT2, hs2, rfl⟩
    refine ⟨_, _, rfl, tupS sm hTj, rfl, _, _, rfl, _, _, rfl, rfl, rfl, ?_⟩
    refine lcYes ?_
    have s06 := Same.trans s0T sm
    refine ⟨_, rfl, _, rfl, by show 1 ≤ sizeLine; decide, fun U nU => ?_⟩
    have sU := sameNew (o := .tup [.bl b]) nU
    refine catUse (tupS (Same.trans s06 sU) h2) (.of upd_same) (by simp; omega) fun tr2 H8 s8 htr2 => ?_
    have s6U8 := Same.trans sU s8
    have s08 := Same.trans s06 s6U8
    refine ⟨_, rfl, _, rfl, _, rfl, x, pa, tops, R, p, b, rfl, hP.same s08, hA, hk, tupS s08 h3, fun H9 pv9 s9 hpv => ?_⟩
    have s09 := Same.trans s08 s9
    refine ⟨_, rfl, _, _, rfl, rfl, _, rfl, ?_⟩
    refine ⟨_, rfl, _, rfl, by show 1 ≤ sizeLine; decide, fun Y nY => ⟨wl, Y, _, _, rfl, rfl, sameNew nY _ _ (s09 _ _ h6), upd_same, by rw [List.length_singleton]; omega, fun Z nZ => ?_⟩⟩
    have sY := sameNew (o := .lst [vj]) nY
    have sZ := sameNew (o := .lst (wvs ++ [vj])) nZ
    refine ⟨by show 5 ≤ sizeLine; decide, fun W nW => ?_⟩
    have sW := sameNew (o := .tup [.ref tr2, pv9, .int ((st.many : Int) + 1), .ref bl, .ref Z]) nW
    have s9Z := Same.trans sY sZ
    have s9W := Same.trans s9Z sW
    have sAll := Same.trans s6U8 (Same.trans s9 s9W)
    have s0W := Same.trans s09 s9W
    have new : WayIn K (D :: Ls) (upd (upd (upd H9 Y (.lst [vj])) Z (.lst (wvs ++ [vj]))) W (.tup [.ref tr2, pv9, .int ((st.many : Int) + 1), .ref bl, .ref Z])) (.ref W) (p.go b, st.turn (wordOf p.rs) b) := by
      refine ⟨W, tr2, bl, Z, pv9, bvs, wvs ++ [vj], rfl, ?_, ?_, hpv.same s9W, s0W _ _ h4, sumsS (tsOf s0W) h5, sW _ _ upd_same, ?_, fun z => ?_, fun z => ?_⟩
      · have e : (((st.turn (wordOf p.rs) b).many : Nat) : Int) = (st.many : Int) + 1 := by simp [St'.turn]
        rw [e]
        exact .of upd_same
      · have e : (st.turn (wordOf p.rs) b).truths.map V.bl = st.truths.map V.bl ++ [.bl b] := by simp [St'.turn]
        rw [e]
        exact tupS (Same.trans s9 s9W) htr2
      · exact (sumsS (tsOf s0W) h7).app (.cons (SumIn.mono (Same.trans sm sAll) sj) .nil)
      · rcases List.mem_cons.mp z with e | z
        · have := s0T _ _ h4
          rw [e, nD] at this
          cases this
        · exact h8 z
      · have ss := Same.trans s6U8 (Same.trans s9 sY)
        rcases List.mem_cons.mp z with e | z
        · rw [e, ss _ _ hD] at nZ
          cases nZ
        · have := hLs Z z
          cases e : H Z with
          | none => exact this e
          | some o => rw [ss _ _ (s06 _ _ e)] at nZ; cases nZ
    refine ⟨ys, sAll _ _ hD, ?_, sameMut (Same.trans sm sAll) nD, ys ++ [.ref W], upd_same, ?_⟩
    · have := hY.len
      rw [List.length_take] at this
      simp at this
      omega
    · rw [ej]
      exact (waysMut (List.mem_cons_self ..) (sAll _ _ hD) (waysS sAll hY)).app (.cons (new.mut (List.mem_cons_self ..) (sAll _ _ hD)) .nil)
  · obtain ⟨sm, ys, hD, hY⟩ := w
    exact q D ys H6 (Same.free s0T nD) (Same.trans s0T sm) hD hY

end

end LW

namespace LW
open PySem PySem.Spec PyProof.Rows L2
local macro_rules | `(tactic| walk_at "go1") => `(tactic| first
  | refine ⟨_, rfl, ?_⟩
  | refine ⟨_, _, rfl, rfl, ?_⟩
  | refine ⟨show (0 : Int) < _ from by omega, ?_⟩
  | refine ⟨show CMul _ _ from by first | exact .inl ⟨by omega, by omega⟩ | exact .inr ⟨by omega, by omega⟩, ?_⟩
  | refine ⟨show CDiv _ _ from ⟨by omega, by omega⟩, ?_⟩)
local macro_rules | `(tactic| walk_at "go") => `(tactic| repeat walk_at "go1")

section
variable {P : Program} {w : World} {K : PySem.W.Frag} {mg : Str → Option Value} {base : Heap}

theorem catL {H : Hp} {σ : L2.St} {Q : VK} {a b : Addr} {xs ys : List V} (ha : H a = some (.lst xs)) (hb : H b = some (.lst ys)) (hl : xs.length + ys.length ≤ 100000) (q : ∀ c, H c = none → Q (.ref c) (upd H c (.lst (xs ++ ys)))) : ∃ a' b' xs' ys', V.ref a = .ref a' ∧ V.ref b = .ref b' ∧ H a' = some (.lst xs') ∧ H b' = some (.lst ys') ∧ xs'.length + ys'.length ≤ sizeLine ∧ ∀ c, H c = none → Q (.ref c) (upd H c (.lst (xs' ++ ys'))) :=
  ⟨a, b, xs, ys, rfl, rfl, ha, hb, Nat.le_trans hl (by decide), q⟩
abbrev s__further : Stmt := topS 44
theorem sc__further : FnScope ["program", "way", "truths", "place", "many", "boxes", "words", "row", "box"] ["program", "way"] (defScope s__further) := ⟨rfl, rfl, rfl, by decide +kernel, rfl, by decide +kernel, by decide +kernel⟩

def spFurther (K : PySem.W.Frag) (C : Addr) : Sp := fun vs H Q _ => ∃ (x : Addr) (wv : V) (tops : List Int) (R : Rs) (p : Pos') (st : St') (Ls : List Addr), vs = [.ref x, wv] ∧ PgIn K H C x tops R ∧ At R p.ah p.i p.rs p.fr ∧ p.rs.isNil = false ∧ WayIn K Ls H wv (some p, st) ∧ GoodSt tops.length 1 st ∧ (∀ L ∈ Ls, H L ≠ none) ∧
  ∀ (l : Addr) (us : List V) (H' : Hp), H l = none → Same H H' → H' l = some (.lst us) → A2 (WayIn K (l :: Ls) H') us (further p st) → Q (.ref l) H'
theorem ok__further {f C : Addr} {fd : FuncData} {k : Nat} (F : Fun K "_further" "_further" s__further f fd) (B : Bl mg) (qcl : Cls K C) (q_row : CalM P w K mg base k C "row" (spRowAt K C)) (c_put_in : C8.Cal P w K mg base k "put_in" (spPut K) []) (c__both : C8.Cal P w K mg base k "_both" (spBoth K C) []) (c_behind : C8.Cal P w K mg base k "behind" (spBehind K C) []) : FnOk P w K mg base CX0 (k + 1) f fd ["program", "way"] (spFurther K C) := by
  refine F.ok sc__further (fun vs H Q E h => ?_) (fun cdv A outer s H vs Q E hr h => ?_)
  · obtain ⟨x, wv, tops, R, p, st, Ls, rfl, _⟩ := h
    rfl
  obtain ⟨x, wv, tops, R, ⟨ah, i, rs, fr⟩, st, Ls, rfl, hP, hA, n, hw, hg, hLs, q⟩ := h
  have hw0 := hw
  obtain ⟨t, tr, bl, wl, pv, bvs, wvs, rfl, h1, h2, ⟨pa, rfl, h3⟩, h4, h5, h6, h7, h8, h9⟩ := hw
  dsimp only at hA n h1 h2 h3 h5 h7 q
  refine ⟨_, (pss_cons (ps_asg (pv 1) (kTn (K := K) rfl rfl (pgs_cons (pg_name (i := 2) sc__further.nd rfl (.inl rfl)) (pgs_cons (pg_name (i := 3) sc__further.nd rfl (.inl rfl)) (pgs_cons (pg_name (i := 4) sc__further.nd rfl (.inl rfl)) (pgs_cons (pg_name (i := 5) sc__further.nd rfl (.inl rfl)) (pgs_cons (pg_name (i := 6) sc__further.nd rfl (.inl rfl)) pgs_nil)))))))
    (pss_cons (ps_set (i := 7) sc__further.nd rfl (.inl rfl) (pM q_row qcl hr (by omega) (pv 0) (pa_cons (pv 3) pa_nil)))
    (pss_cons (ps_if (pt_cmpR op_eq (pe_ix (kIxT (K := K) rfl) (pv 7) pe_int (fun _ _ => rfl)) pe_str (nomark _))
      (pss_one (ps_ret (pe_lst pa_nil)))
      pss_nil)
    (pss_cons (ps_if (pt_cmpR op_eq (pe_ix (kIxT (K := K) rfl) (pv 7) pe_int (fun _ _ => rfl)) pe_str (nomark _))
      (pss_one (ps_ret (C8.pe_c c__both hr (Nat.le_refl _) (by rfl) (pa_cons (pv 0) (pa_cons (pv 1) pa_nil)))))
      pss_nil)
    (pss_cons (ps_if (pt_cmpR op_eq (pe_ix (kIxT (K := K) rfl) (pv 7) pe_int (fun _ _ => rfl)) pe_str (nomark _))
      (pss_cons (ps_set (i := 8) sc__further.nd rfl (.inl rfl) (pe_ix (kIxT (K := K) rfl) (pv 7) pe_int (fun _ _ => rfl)))
      (pss_one (ps_set (i := 5) sc__further.nd rfl (.inl rfl) (pe_op op_cat (pe_op op_cat (pe_slice (kSlL (K := K) rfl) (pv 5) po_none (po_some (pv 8))) (pe_lst (pa_cons (C8.pe_c c_put_in hr (Nat.le_refl _) (by rfl) (pa_cons (pe_ix (kIxT (K := K) rfl) (pv 7) pe_int (fun _ _ => rfl)) (pa_cons (pv 5) pa_nil))) pa_nil))) (pe_slice (kSlL (K := K) rfl) (pv 5) (po_some (pe_op op_add (pv 8) pe_int)) po_none)))))
      (pss_one (ps_set (i := 6) sc__further.nd rfl (.inl rfl) (pe_op op_cat (pv 6) (pe_lst (pa_cons (C8.pe_c c_put_in hr (Nat.le_refl _) (by rfl) (pa_cons (pe_ix (kIxT (K := K) rfl) (pv 7) pe_int (fun _ _ => rfl)) (pa_cons (pv 5) pa_nil))) pa_nil))))))
    (pss_one (ps_ret (pe_lst (pa_cons (pe_tup (pa_cons (pv 2) (pa_cons (C8.pe_c c_behind hr (Nat.le_refl _) (by rfl) (pa_cons (pv 0) (pa_cons (pv 3) pa_nil))) (pa_cons (pe_op op_add (pv 4) pe_int) (pa_cons (pv 5) (pa_cons (pv 6) pa_nil)))))) pa_nil))))))))), ?_⟩
  obtain ⟨dx, tt, aa, hx⟩ := hP.obj
  obtain ⟨hRW, hTW, _, _⟩ := pgT hP
  have hW := hA.w hRW
  have szl : (100000 : Nat) < sizeLine := by decide
  have lwv : wvs.length = st.words.length := h7.len
  have lbv : bvs.length = st.boxes.length := h5.len
  refine ⟨_, rfl, _, _, rfl, h1, rfl, _, _, rfl, _, _, rfl, _, _, rfl, _, _, rfl, _, _, rfl, rfl, ?_⟩
  refine ⟨_, rfl, x, dx, _, rfl, hx, lkRow, _, rfl, rowSp (E := C8.E0) hP hA n h3 fun H1 v s1 hv => ?_⟩
  -- what the row is
  have fin : ∀ {H4 : Hp} {bl2 wl2 : Addr} {bvs2 wvs2 : List V} {st2 : St'} (y7 y8 : Option V), Same H H4 → st2.truths = st.truths → st2.many = st.many + 1 → H4 bl2 = some (.lst bvs2) → A2 (SumIn K H4) bvs2 st2.boxes → H4 wl2 = some (.lst wvs2) → A2 (SumIn K H4) wvs2 st2.words → bl2 ∉ Ls → wl2 ∉ Ls → further ⟨ah, i, rs, fr⟩ st = [(norm fr rs.tl ah (i + 1), st2)] →
      tRet (tLst (tCons (tTup (tCons (tVar 2) (tCons (tCall (spBehind K C) [] C8.E0 (tCons (tVar 0) (tCons (tVar 3) tNil))) (tCons (tOp (rI0 fun i j => .int (i + j)) (tVar 4) (tC (.int 1))) (tCons (tVar 5) (tCons (tVar 6) tNil)))))) tNil)) { nx := fun x H' => Q .non H', rt := Q } [some (.ref x), some (.ref t), some (.ref tr), some (.ref pa), some (.int (st.many : Int)), some (.ref bl2), some (.ref wl2), y7, y8] H4 := by
    intro H4 bl2 wl2 bvs2 wvs2 st2 y7 y8 s4 et em g4 g5 g6 g7 g8 g9 ef
    refine ⟨_, rfl, _, rfl, _, rfl, x, pa, tops, R, ah, i, rs, fr, rfl, hP.same s4, hA, n, tupS s4 h3, fun H5 pv5 s5 hpv => ?_⟩
    refine ⟨_, rfl, _, _, rfl, rfl, _, rfl, _, rfl, by show 5 ≤ sizeLine; decide, fun W nW => ⟨by show 1 ≤ sizeLine; decide, fun l nl => ?_⟩⟩
    have sW := sameNew (o := .tup [.ref tr, pv5, .int ((st.many : Int) + 1), .ref bl2, .ref wl2]) nW
    have sl := sameNew (o := .lst [.ref W]) nl
    have s5l := Same.trans s5 (Same.trans sW sl)
    have out : ∀ {b : Addr} {zs : List V}, H4 b = some (.lst zs) → b ∉ Ls → b ∉ l :: Ls := fun {b zs} hb hn z => by
      rcases List.mem_cons.mp z with e | z
      · have := Same.trans s5 sW _ _ hb
        rw [e, nl] at this
        cases this
      · exact hn z
    refine q l [.ref W] _ (Same.free (Same.trans s4 (Same.trans s5 sW)) nl) (Same.trans s4 s5l) upd_same ?_
    rw [ef]
    refine .cons ⟨W, tr, bl2, wl2, pv5, bvs2, wvs2, rfl, ?_, ?_, hpv.same (Same.trans sW sl), s5l _ _ g4, sumsS (tsOf s5l) g5, s5l _ _ g6, sumsS (tsOf s5l) g7, out g4 g8, out g6 g9⟩ .nil
    · have e : ((st2.many : Nat) : Int) = (st.many : Int) + 1 := by rw [em]; omega
      rw [e]
      exact tupS sl (.of upd_same)
    · rw [et]
      exact tupS (Same.trans s4 s5l) h2
  cases rs with
  | nil => cases n
  | loop w ws b t2 =>
    cases hv with
    | @tup ra rx _ hR hRA =>
    cases hRA with
    | cons k0 kA =>
    cases k0
    refine ⟨_, rfl, _, _, _, _, rfl, rfl, hR, atI_nat (j := 0) rfl, rfl, _, rfl, ?_⟩
    rw [decide_eq_true (strEq.mpr rfl)]
    refine iteT ⟨by show 0 ≤ sizeLine; decide, fun l nl => ?_⟩
    exact q l [] _ (Same.free s1 nl) (Same.trans s1 (sameNew nl)) upd_same .nil
  | ite w a b t2 =>
    cases hv with
    | @tup ra rx _ hR hRA =>
    cases hRA with
    | cons k0 kA =>
    cases k0
    refine ⟨_, rfl, _, _, _, _, rfl, rfl, hR, atI_nat (j := 0) rfl, rfl, _, rfl, ?_⟩
    rw [decide_eq_false (fun c => absurd (strEq.mp c) (by decide +kernel))]
    refine iteF ?_
    refine ⟨_, rfl, _, _, _, _, rfl, rfl, hR, atI_nat (j := 0) rfl, rfl, _, rfl, ?_⟩
    rw [decide_eq_true (strEq.mpr rfl)]
    refine iteT ⟨_, rfl, _, rfl, x, .ref t, tops, R, ⟨ah, i, _, fr⟩, st, Ls, rfl, hP.same s1, hA, .inl ⟨_, _, _, _, rfl⟩, hw0.same s1, hg, fun L hL z => ?_, fun l us H' nl s' hl hu => q l us H' (Same.free s1 nl) (Same.trans s1 s') hl hu⟩
    cases e : H L with
    | none => exact hLs L hL e
    | some o => rw [s1 _ _ e] at z; cases z
  | say w t2 =>
    cases hv with
    | @tup ra rx _ hR hRA =>
    cases hRA with
    | cons k0 kA =>
    cases k0
    cases kA with
    | cons k1 kA =>
    obtain ⟨g1, g2, g3, g4, g5, g6⟩ := hg
    refine ⟨_, rfl, _, _, _, _, rfl, rfl, hR, atI_nat (j := 0) rfl, rfl, _, rfl, ?_⟩
    rw [decide_eq_false (fun c => absurd (strEq.mp c) (by decide +kernel))]
    refine iteF ?_
    refine ⟨_, rfl, _, _, _, _, rfl, rfl, hR, atI_nat (j := 0) rfl, rfl, _, rfl, ?_⟩
    rw [decide_eq_false (fun c => absurd (strEq.mp c) (by decide +kernel))]
    refine iteF ?_
    refine ⟨_, rfl, _, _, _, _, rfl, rfl, hR, atI_nat (j := 0) rfl, rfl, _, rfl, ?_⟩
    rw [decide_eq_false (fun c => absurd (strEq.mp c) (by decide +kernel))]
    refine iteF ?_
    refine ⟨_, rfl, _, rfl, _, _, _, _, rfl, rfl, hR, atI_nat (j := 1) rfl, _, rfl, putUse (E := C8.E0) (sumDin k1) (s1 _ _ h4) (sumsS (tsOf s1) h5) g2 hTW.1 hTW.2.1 g3 (by omega) (good3 (sumW_wd hW.1) (by omega)) fun H2 v2 s2 hv2 => ?_⟩
    have s02 := Same.trans s1 s2
    refine ⟨by show 1 ≤ sizeLine; decide, fun Y nY => ⟨wl, Y, _, _, rfl, rfl, sameNew nY _ _ (s02 _ _ h6), upd_same, by rw [List.length_singleton]; omega, fun Z nZ => ?_⟩⟩
    have sY := sameNew (o := .lst [v2]) nY
    have sZ := sameNew (o := .lst (wvs ++ [v2])) nZ
    have s0Z := Same.trans s02 (Same.trans sY sZ)
    refine fin (st2 := st.say w) _ _ s0Z rfl rfl (s0Z _ _ h4) (sumsS (tsOf s0Z) h5) upd_same ((sumsS (tsOf s0Z) h7).app (.cons (SumIn.mono (Same.trans sY sZ) hv2) .nil)) h8 (fun z => ?_) rfl
    have := hLs Z z
    cases e : H Z with
    | none => exact this e
    | some o => rw [sY _ _ (s02 _ _ e)] at nZ; cases nZ
  | put b s t2 =>
    cases hv with
    | @tup ra rx _ hR hRA =>
    cases hRA with
    | cons k0 kA =>
    cases k0
    cases kA with
    | cons k1 kA =>
    cases k1
    cases kA with
    | cons k2 kA =>
    obtain ⟨g1, g2, g3, g4, g5, g6⟩ := hg
    have hb : b < st.boxes.length := by rw [g2]; exact hW.1
    have ht3 := hTW.2.1
    refine ⟨_, rfl, _, _, _, _, rfl, rfl, hR, atI_nat (j := 0) rfl, rfl, _, rfl, ?_⟩
    rw [decide_eq_false (fun c => absurd (strEq.mp c) (by decide +kernel))]
    refine iteF ?_
    refine ⟨_, rfl, _, _, _, _, rfl, rfl, hR, atI_nat (j := 0) rfl, rfl, _, rfl, ?_⟩
    rw [decide_eq_false (fun c => absurd (strEq.mp c) (by decide +kernel))]
    refine iteF ?_
    refine ⟨_, rfl, _, _, _, _, rfl, rfl, hR, atI_nat (j := 0) rfl, rfl, _, rfl, ?_⟩
    rw [decide_eq_true (strEq.mpr rfl)]
    refine iteT ?_
    refine ⟨_, rfl, _, _, _, _, rfl, rfl, hR, atI_nat (j := 1) rfl, ?_⟩
    refine ⟨_, rfl, _, rfl, _, rfl, bl, bvs, rfl, .of (s1 _ _ h4), fun pA nA => ?_⟩
    have sA := sameNew (o := .lst (cutV bvs none (some (b : Int)))) nA
    have s0A := Same.trans s1 sA
    refine ⟨_, rfl, _, _, _, _, rfl, rfl, tupS sA hR, atI_nat (j := 2) rfl, _, rfl, putUse (E := C8.E0) (sumDin (dinSame sA k2)) (s0A _ _ h4) (sumsS (tsOf s0A) h5) g2 hTW.1 hTW.2.1 g3 (by omega) (good3 (sumW_wd hW.2.1) (by omega)) fun H3 v3 s3 hv3 => ?_⟩
    have s03 := Same.trans s0A s3
    refine ⟨by show 1 ≤ sizeLine; decide, fun Y nY => ⟨pA, Y, _, _, rfl, rfl, sameNew nY _ _ (s3 _ _ upd_same), upd_same, by have := cutV_length bvs none (some (b : Int)); rw [List.length_singleton]; omega, fun Z nZ => ?_⟩⟩
    have sY := sameNew (o := .lst [v3]) nY
    have sZ := sameNew (o := .lst (cutV bvs none (some (b : Int)) ++ [v3])) nZ
    have s3Z := Same.trans sY sZ
    have s0Z := Same.trans s03 s3Z
    refine ⟨_, rfl, _, rfl, _, _, rfl, rfl, _, rfl, bl, bvs, rfl, .of (s0Z _ _ h4), fun pB nB => ?_⟩
    have sB := sameNew (o := .lst (cutV bvs (some ((b : Int) + 1)) none)) nB
    refine ⟨Z, pB, _, _, rfl, rfl, sB _ _ upd_same, upd_same, by have h1 := cutV_length bvs none (some (b : Int)); have h2 := cutV_length bvs (some ((b : Int) + 1)) none; rw [List.length_append, List.length_singleton]; omega, fun W nW => ?_⟩
    have sW := sameNew (o := .lst (cutV bvs none (some (b : Int)) ++ [v3] ++ cutV bvs (some ((b : Int) + 1)) none)) nW
    have s3W := Same.trans s3Z (Same.trans sB sW)
    have s0W := Same.trans s03 s3W
    have ec : cutV bvs none (some (b : Int)) ++ [v3] ++ cutV bvs (some ((b : Int) + 1)) none = bvs.set b v3 := by
      rw [cutTake, show (b : Int) + 1 = ((b + 1 : Nat) : Int) by omega, cutDrop, setAt (by omega)]
    refine fin (st2 := st.put b s) _ _ s0W rfl rfl upd_same ?_ (s0W _ _ h6) (sumsS (tsOf s0W) h7) (fun z => ?_) h9 rfl
    · have z := (sumsS (tsOf s0W) h5).set (j := b) (SumIn.mono s3W hv3)
      exact (show ∀ {S : V → Sm → Prop} {zs : List V}, zs = bvs.set b v3 → A2 S (bvs.set b v3) (st.boxes.set b (pIn s st.boxes)) → A2 S zs (st.put b s).boxes from fun e h => by rw [e]; exact h) ec z
    · have := hLs W z
      cases e : H W with
      | none => exact this e
      | some o => rw [Same.trans s0Z sB _ _ e] at nW; cases nW

end

end LW

namespace LW
open PySem PySem.Spec PyProof.Rows L2
local macro_rules | `(tactic| walk_at "go1") => `(tactic| first
  | refine ⟨_, rfl, ?_⟩
  | refine ⟨_, _, rfl, rfl, ?_⟩
  | refine ⟨show (0 : Int) < _ from by omega, ?_⟩
  | refine ⟨show CMul _ _ from by first | exact .inl ⟨by omega, by omega⟩ | exact .inr ⟨by omega, by omega⟩, ?_⟩
  | refine ⟨show CDiv _ _ from ⟨by omega, by omega⟩, ?_⟩)
local macro_rules | `(tactic| walk_at "go") => `(tactic| repeat walk_at "go1")

section
variable {P : Program} {w : World} {K : PySem.W.Frag} {mg : Str → Option Value} {base : Heap}

def boxes0 (n : Nat) : List Sm := (List.range n).map fun b => (unitN 1 b n, 0)
def startSt (n : Nat) (ws : List Sm) : St' := ⟨[], 0, boxes0 n, ws⟩
def keptOf : Rs → List Sm
  | .loop _ ws _ _ => ws
  | _ => []
theorem startGood {n : Nat} {ws : List Sm} {l : Nat} (n3 : n ≤ 3) (hl : l ≤ 14) (hw : ∀ s ∈ ws, SumW n s) (l3 : ws.length ≤ 3) : GoodSt n l (startSt n ws) := by
  refine ⟨by simp only [startSt]; omega, by simp [startSt, boxes0], fun b hb => ?_, fun b hb => ?_, by simp only [startSt]; omega, by simp [startSt]⟩
  · obtain ⟨j, _, rfl⟩ := List.mem_map.mp hb
    exact good3 ⟨unit_len .., wdSm (by omega) (by omega), unit_wd (by omega)⟩ (by simp only [startSt]; omega)
  · exact good3 (sumW_wd (hw b hb)) (by simp only [startSt]; omega)
/-- with which ways it begins: at the program's beginning, or at a loop -/
def begins (n : Nat) (R : Rs) : Option Pos' → List (Option Pos' × St')
  | none => [(norm .top R [] 0, startSt n [])]
  | some p => [(p.go false, (startSt n (keptOf p.rs)).turn (wordOf p.rs) false), (p.go true, (startSt n (keptOf p.rs)).turn (wordOf p.rs) true)]
def begPlace : Option Pos' → List Nat
  | none => []
  | some p => p.ah ++ [p.i]
def BegOk (R : Rs) (o : Option Pos') : Prop := ∀ p, o = some p → At R p.ah p.i p.rs p.fr ∧ ∃ w ws b t, p.rs = .loop w ws b t
theorem dpPlace {H : Hp} {a : Addr} {p : List Nat} (h : SqT K H a (nats p)) : Dp K H (.ref a) (dPl p) := .tup h (dpNats _)
theorem eqvNats (p : List Nat) : PyData.eqv (dPl p) (.tuple []) = decide (p = []) := by
  cases p with
  | nil => simp [dPl, PyData.eqv, PyData.eqvAll]
  | cons n r => simp [dPl, PyData.eqv, PyData.eqvAll]
theorem A2.ofAt {α β : Type} {S : α → β → Prop} : ∀ {a : List α} {b : List β}, a.length = b.length → (∀ (j : Nat) x y, a[j]? = some x → b[j]? = some y → S x y) → A2 S a b
  | [], [], _, _ => .nil
  | x :: r, y :: t, hl, h => .cons (h 0 x y rfl rfl) (A2.ofAt (by simpa using hl) fun j u v e1 e2 => h (j + 1) u v (by simpa using e1) (by simpa using e2))
  | [], _ :: _, hl, _ => by simp at hl
  | _ :: _, [], hl, _ => by simp at hl
abbrev s__beginnings : Stmt := topS 43
theorem sc__beginnings : FnScope ["program", "start", "many", "boxes", "box"] ["program", "start"] (defScope s__beginnings) := ⟨rfl, rfl, rfl, by decide +kernel, rfl, by decide +kernel, by decide +kernel⟩

def spBegs (K : PySem.W.Frag) (C : Addr) : Sp := fun vs H Q _ => ∃ (x sa : Addr) (tops : List Int) (R : Rs) (o : Option Pos') (Ls : List Addr), vs = [.ref x, .ref sa] ∧ PgIn K H C x tops R ∧ BegOk R o ∧ SqT K H sa (nats (begPlace o)) ∧ (∀ L ∈ Ls, H L ≠ none) ∧
  ∀ (l : Addr) (us : List V) (H' : Hp), H l = none → Same H H' → H' l = some (.lst us) → A2 (WayIn K (l :: Ls) H') us (begins tops.length R o) → Q (.ref l) H'
theorem ok__beginnings {f C : Addr} {fd : FuncData} {k : Nat} (F : Fun K "_beginnings" "_beginnings" s__beginnings f fd) (B : Bl mg) (qcl : Cls K C) (q_row : CalM P w K mg base (k + 1) C "row" (spRowAt K C)) (q_tops : CalP P w K mg base k C "tops" (spTopsP K C)) (c__of_one_box : C8.Cal P w K mg base (k + 1) "_of_one_box" (spOne K) []) (c_beginning : C8.Cal P w K mg base (k + 1) "beginning" (spBegin K C) []) (c__both : C8.Cal P w K mg base (k + 1) "_both" (spBoth K C) []) : FnOk P w K mg base CX0 (k + 2) f fd ["program", "start"] (spBegs K C) := by
  refine F.ok sc__beginnings (fun vs H Q E h => ?_) (fun cdv A outer s H vs Q E hr h => ?_)
  · obtain ⟨x, sa, tops, R, o, Ls, rfl, _⟩ := h
    rfl
  obtain ⟨x, sa, tops, R, o, Ls, rfl, hP, hO, hsa, hLs, q⟩ := h
  refine ⟨_, (pss_cons (ps_set (i := 2) sc__beginnings.nd rfl (.inr rfl) (pe_callB (kLen (K := K) rfl) (by rfl) B.len PySem.boot_len (pa_cons (pP q_tops qcl hr (by omega) (pv 0)) pa_nil)))
    (pss_cons (ps_setLc (i := 3) (own := [("box", 4)]) rfl sc__beginnings.nd rfl rfl (sw_true rfl rfl rfl (by decide +kernel)) (pi_range1 (by rfl) B.range (pa_cons (pv 2) pa_nil)) (blkOk_by (own := [("box", 4)]) (N := ["program", "start", "many", "boxes", "box"]) (sc := defScope s__beginnings) (by decide +kernel)) (fun _ _ _ _ _ => (pgN (i := 4) sc__beginnings.nd rfl (.inl rfl) (.inr rfl))) (fun _ _ _ _ _ => pts_nil) (fun _ _ _ _ _ => (pe_tup (pa_cons (C8.pe_c c__of_one_box hr (Nat.le_refl _) (by rfl) (pa_cons pe_int (pa_cons (pv 4) (pa_cons (pv 2) pa_nil)))) (pa_cons pe_int pa_nil)))))
    (pss_cons (ps_if (pt_cmpR (kEqD (K := K) rfl hr.units) (pv 1) (pe_tup pa_nil) (nomark _))
      (pss_one (ps_ret (pe_lst (pa_cons (pe_tup (pa_cons (pe_tup pa_nil) (pa_cons (C8.pe_c c_beginning hr (Nat.le_refl _) (by rfl) (pa_cons (pv 0) pa_nil)) (pa_cons pe_int (pa_cons (pv 3) (pa_cons (pe_lst pa_nil) pa_nil)))))) pa_nil))))
      pss_nil)
    (pss_one (ps_ret (C8.pe_c c__both hr (Nat.le_refl _) (by rfl) (pa_cons (pv 0) (pa_cons (pe_tup (pa_cons (pe_tup pa_nil) (pa_cons (pv 1) (pa_cons pe_int (pa_cons (pv 3) (pa_cons (pe_callTy (kList (K := K) rfl) (by rfl) B.list (by decide +kernel) (pa_cons (pe_ix (kIxT (K := K) rfl) (pM q_row qcl hr (by omega) (pv 0) (pa_cons (pv 1) pa_nil)) pe_int (fun _ _ => rfl)) pa_nil)) pa_nil)))))) pa_nil)))))))), ?_⟩
  obtain ⟨dx, tt, aa, hx⟩ := hP.obj
  obtain ⟨hRW, hTW, hN, hD⟩ := pgT hP
  obtain ⟨rv, hpr⟩ := hP.pr
  have ht3 := hTW.2.1
  refine ⟨_, rfl, x, dx, _, rfl, hx, x, tops, rv, rfl, hpr, fun tl H1 ntl s1 htl => ?_⟩
  refine ⟨_, _, rfl, .inl (.of htl), ?_⟩
  rw [List.length_map]
  -- the boxes
  refine ⟨_, rfl, _, rfl, by omega, by omega, fun D nD => ?_⟩
  have nD0 : H D = none := Same.free s1 nD
  refine lc_it walk_range (Made H1 D (fun j y H' => SumIn K H' y (unitN 1 j tops.length, 0))) (made0 nD) (fun _ _ _ _ => trivial) (fun j y H2 H3 hj p z => ?_) (fun H2 p => ?_)
  · obtain ⟨rfl, rfl⟩ := z
    refine ⟨rfl, ?_⟩
    refine lcYes ?_
    have hj3 : j < tops.length := by simpa using hj
    refine ⟨_, rfl, _, rfl, 1, j, tops.length, by simp, by omega, fun r H4 s4 hr => ⟨by show 2 ≤ sizeLine; decide, fun U nU => ?_⟩⟩
    exact p.push nD (fun _ _ _ _ e h => tsSum e h) (by omega) (Same.trans s4 (sameNew nU)) ⟨U, r, rfl, .of upd_same, tupS (sameNew nU) hr⟩
  obtain ⟨ys, lys, eD, s2, hys⟩ := p
  have s02 := Same.trans s1 s2
  have lt : ((tops.length : Nat) : Int).toNat = tops.length := by omega
  rw [lt] at lys
  have hB : A2 (SumIn K H2) ys (boxes0 tops.length) := A2.ofAt (by simp [boxes0, lys]) fun j y z e1 e2 => by
    have hj : j < tops.length := by
      have := (List.getElem?_eq_some_iff.mp e1).1
      omega
    have ez : z = (unitN 1 j tops.length, 0) := by
      simp [boxes0, hj] at e2
      exact e2.symm
    rw [ez]
    exact hys j y e1
  -- start == ()
  refine ⟨_, rfl, by show 0 ≤ sizeLine; decide, fun T nT => ?_⟩
  have sT := sameNew (o := .tup []) nT
  have s0T := Same.trans s02 sT
  refine ⟨dPl (begPlace o), .tuple [], dpPlace (tupS s0T hsa), .tup (.of upd_same) .nil, (lyPl _).shaped (by decide), (lyTup (lyNil 1)).shaped (by decide), _, rfl, ?_⟩
  rw [eqvNats]
  have hBT := sumsS (tsOf sT) hB
  have eDT := sT _ _ eD
  have hLD : ¬ D ∈ Ls := fun z => hLs D z nD0
  generalize upd H2 T (.tup []) = H5 at *
  cases o with
  | none =>
    rw [show begPlace (none : Option Pos') = [] from rfl, decide_eq_true rfl]
    refine iteT ⟨by show 0 ≤ sizeLine; decide, fun T2 nT2 => ?_⟩
    have sT2 := sameNew (o := .tup []) nT2
    have s0b := Same.trans s0T sT2
    refine ⟨_, rfl, x, tops, R, rfl, hP.same s0b, fun H6 pv s6 hpv => ?_⟩
    refine ⟨_, rfl, by show 0 ≤ sizeLine; decide, fun wl nwl => ⟨by show 5 ≤ sizeLine; decide, fun W nW => ⟨by show 1 ≤ sizeLine; decide, fun l nl => ?_⟩⟩⟩
    have swl := sameNew (o := .lst []) nwl
    have sW := sameNew (o := .tup [.ref T2, pv, .int 0, .ref D, .ref wl]) nW
    have sl := sameNew (o := .lst [.ref W]) nl
    have s6l := Same.trans swl (Same.trans sW sl)
    have s5l := Same.trans sT2 (Same.trans s6 s6l)
    have s06 := Same.trans s0b s6
    refine q l [.ref W] _ (Same.free (Same.trans s06 (Same.trans swl sW)) nl) (Same.trans s06 s6l) upd_same ?_
    refine .cons ⟨W, T2, D, wl, pv, ys, [], rfl, tupS sl (.of upd_same), tupS (Same.trans s6 s6l) (.of upd_same), hpv.same s6l, s5l _ _ eDT, sumsS (tsOf s5l) hBT, Same.trans sW sl _ _ upd_same, .nil, fun z => ?_, fun z => ?_⟩ .nil
    · rcases List.mem_cons.mp z with e | z
      · have := Same.trans sT2 (Same.trans s6 (Same.trans swl sW)) _ _ eDT
        rw [← e, this] at nl
        cases nl
      · exact hLD z
    rcases List.mem_cons.mp z with e | z
    · have : upd H6 wl (.lst []) wl = some (.lst []) := upd_same
      have := sW _ _ this
      rw [← e, this] at nl
      cases nl
    have := hLs wl z
    cases e : H wl with
    | none => exact this e
    | some o => rw [s06 _ _ e] at nwl; cases nwl
  | some p =>
    obtain ⟨hA, w, ws, b, t, ep⟩ := hO p rfl
    have hWp := hA.w hRW
    rw [ep] at hWp
    have n : p.rs.isNil = false := by rw [ep]; rfl
    have np : begPlace (some p) ≠ [] := by simp [begPlace]
    rw [decide_eq_false np]
    refine iteF ?_
    refine ⟨_, rfl, by show 0 ≤ sizeLine; decide, fun T2 nT2 => ?_⟩
    have sT2 := sameNew (o := .tup []) nT2
    have s0b := Same.trans s0T sT2
    refine ⟨_, rfl, _, rfl, _, rfl, x, dx, _, rfl, s0b _ _ hx, lkRow, _, rfl, rowSp (E := C8.E0) (hP.same s0b) hA n (tupS s0b hsa) fun H6 v s6 hv => ?_⟩
    rw [ep] at hv
    cases hv with
    | @tup ra rx _ hR hRA =>
    cases hRA with
    | cons k0 kA =>
    cases k0
    cases kA with
    | cons k1 kA =>
    cases kA with
    | cons k2 kA =>
    cases k2 with
    | @tup wa wx _ hWT hWA =>
    have hWs := sumsDin hWA
    refine ⟨_, _, _, _, rfl, rfl, hR, atI_nat (j := 2) rfl, wa, wx, rfl, .inr hWT, fun wl nwl => ⟨by show 5 ≤ sizeLine; decide, fun W nW => ?_⟩⟩
    have swl := sameNew (o := .lst wx) nwl
    have sW := sameNew (o := .tup [.ref T2, .ref sa, .int 0, .ref D, .ref wl]) nW
    have s6W := Same.trans swl sW
    have s06 := Same.trans s0b s6
    have s0W := Same.trans s06 s6W
    have s5W := Same.trans sT2 (Same.trans s6 s6W)
    have hg : GoodSt tops.length 1 (startSt tops.length ws) := startGood ht3 (by omega) hWp.2.1 hWp.2.2.1
    have ek : keptOf p.rs = ws := by rw [ep]; rfl
    refine ⟨x, .ref W, tops, R, p, startSt tops.length ws, Ls, rfl, hP.same s0W, hA, .inr ⟨w, ws, b, t, ep⟩, ⟨W, T2, D, wl, .ref sa, ys, wx, rfl, .of upd_same, tupS (Same.trans s6 s6W) (.of upd_same), ⟨sa, rfl, tupS s0W hsa⟩, s5W _ _ eDT, sumsS (tsOf s5W) hBT, sW _ _ upd_same, sumsS (tsOf s6W) hWs, fun z => hLD z, fun z => ?_⟩, hg, fun L hL z => ?_, fun l us H7 nl s7 hl hu => ?_⟩
    · have := hLs wl z
      cases e : H wl with
      | none => exact this e
      | some o => rw [s06 _ _ e] at nwl; cases nwl
    · cases e : H L with
      | none => exact hLs L hL e
      | some o => rw [s0W _ _ e] at z; cases z
    · refine q l us H7 (Same.free s0W nl) (Same.trans s0W s7) hl ?_
      rw [begins, ek]
      exact hu

end

end LW

namespace LW
open PySem PySem.Spec PyProof.Rows L2
local macro_rules | `(tactic| walk_at "go1") => `(tactic| first
  | refine ⟨_, rfl, ?_⟩
  | refine ⟨_, _, rfl, rfl, ?_⟩
  | refine ⟨show (0 : Int) < _ from by omega, ?_⟩
  | refine ⟨show CMul _ _ from by first | exact .inl ⟨by omega, by omega⟩ | exact .inr ⟨by omega, by omega⟩, ?_⟩
  | refine ⟨show CDiv _ _ from ⟨by omega, by omega⟩, ?_⟩)
local macro_rules | `(tactic| walk_at "go") => `(tactic| repeat walk_at "go1")

section
variable {P : Program} {w : World} {K : PySem.W.Frag} {mg : Str → Option Value} {base : Heap}

/-- a way that stands at a row, good -/
def OkAt (n : Nat) (R : Rs) (o : Option Pos') (st : St') : Prop := ∀ p, o = some p → At R p.ah p.i p.rs p.fr ∧ p.rs.isNil = false ∧ GoodSt n (omx o) st
theorem okNorm {n : Nat} {R : Rs} {fr : Fr} {ah : List Nat} {i : Nat} {rs : Rs} {st : St'} (h : At R ah i rs fr) (g : GoodSt n (mx rs fr.mx) st) : OkAt n R (norm fr rs ah i) st := fun p e => by
  have := h.norm e
  refine ⟨this.1, this.2, ?_⟩
  rw [norm_mx]
  exact g
theorem ok_further {n : Nat} {R : Rs} {p : Pos'} {st : St'} (n3 : n ≤ 3) (hw : R.W n) (ha : At R p.ah p.i p.rs p.fr) (hn : p.rs.isNil = false) (g : GoodSt n (omx (some p)) st) : ∀ x ∈ further p st, OkAt n R x.1 x.2 := by
  obtain ⟨ah, i, rs, fr⟩ := p
  dsimp only at ha hn
  have hW := ha.w hw
  intro x hx
  cases rs with
  | nil => cases hn
  | put b s t =>
    rw [List.mem_singleton.mp hx]
    have g' : GoodSt n (mx t fr.mx + 1) st := g.less (by simp only [omx, mx]; omega)
    exact okNorm ha.put (g'.put n3 hW.2.1)
  | say w t =>
    rw [List.mem_singleton.mp hx]
    have g' : GoodSt n (mx t fr.mx + 1) st := g.less (by simp only [omx, mx]; omega)
    exact okNorm ha.say (g'.say n3 hW.1)
  | ite w a b t =>
    rcases List.mem_cons.mp hx with rfl | hx
    · have g' : GoodSt n (mx b (mx t fr.mx) + 1) st := g.less (by simp only [omx, mx]; omega)
      exact okNorm ha.ifB (g'.turn n3 hW.1)
    · rw [List.mem_singleton.mp hx]
      have g' : GoodSt n (mx a (mx t fr.mx) + 1) st := g.less (by simp only [omx, mx]; omega)
      exact okNorm ha.ifA (g'.turn n3 hW.1)
  | loop w ws b t => cases hx
theorem ok_begins {n : Nat} {R : Rs} {o : Option Pos'} (n3 : n ≤ 3) (hw : R.W n) (hn : R.num ≤ 12) (ho : BegOk R o) : ∀ x ∈ begins n R o, OkAt n R x.1 x.2 := by
  intro x hx
  have nm : ∀ {ah i rs fr}, At R ah i rs fr → mx rs fr.mx ≤ 12 := fun h => Nat.le_trans h.mx hn
  cases o with
  | none =>
    rw [List.mem_singleton.mp hx]
    exact okNorm .top (startGood n3 (by have := nm (At.top (R := R)); omega) (fun s hs => by cases hs) (by simp))
  | some p =>
    obtain ⟨hA, w, ws, b, t, ep⟩ := ho p rfl
    obtain ⟨ah, i, rs, fr⟩ := p
    dsimp only at ep hA
    subst ep
    have hW := hA.w hw
    have g : GoodSt n 14 (startSt n ws) := startGood n3 (by omega) hW.2.1 hW.2.2.1
    rcases List.mem_cons.mp hx with rfl | hx
    · have := nm hA.loop
      have g' : GoodSt n (mx t fr.mx + 1) (startSt n ws) := g.less (by omega)
      exact okNorm hA.loop (g'.turn n3 hW.1)
    · rw [List.mem_singleton.mp hx]
      have := nm hA.body
      have g' : GoodSt n (mx b 1 + 1) (startSt n ws) := g.less (by have : mx b 1 ≤ 12 := this; omega)
      exact okNorm hA.body (g'.turn n3 hW.1)
def msr (l : List (Option Pos' × St')) : Nat := (l.map fun x => 2 * owt x.1 + 1).sum
theorem msr_app (a b : List (Option Pos' × St')) : msr (a ++ b) = msr a + msr b := by simp [msr]
theorem msr_len (l : List (Option Pos' × St')) : l.length ≤ msr l := by
  induction l with
  | nil => exact Nat.le_refl _
  | cons x r ih => simp only [msr, List.map_cons, List.sum_cons, List.length_cons] at ih ⊢; omega
theorem msr_further {p : Pos'} {st : St'} (hn : p.rs.isNil = false) : msr (further p st) + 1 ≤ 2 * owt (some p) + 1 := by
  have h := wt_further p st hn
  have h2 : ∀ l : List (Option Pos' × St'), msr l = 2 * (l.map fun x => owt x.1).sum + l.length := by
    intro l
    induction l with
    | nil => rfl
    | cons x r ih => simp only [msr, List.map_cons, List.sum_cons, List.length_cons] at ih ⊢; omega
  have h3 : (further p st).length ≤ 2 := by
    obtain ⟨ah, i, rs, fr⟩ := p
    cases rs <;> simp [further]
  rw [h2]
  omega
theorem msr_begins {n : Nat} {R : Rs} {o : Option Pos'} (hn : R.num ≤ 12) (ho : BegOk R o) : msr (begins n R o) ≤ 20000 := by
  have p12 : 2 ^ R.num ≤ 2 ^ 12 := Nat.pow_le_pow_right (by decide) hn
  have w : ∀ {ah i rs fr}, At R ah i rs fr → wt rs fr.wt ≤ 4096 := fun h => by
    have := h.wt
    omega
  cases o with
  | none =>
    have := w (At.top (R := R))
    simp only [begins, msr, List.map_cons, List.map_nil, List.sum_cons, List.sum_nil, norm_wt]
    omega
  | some p =>
    obtain ⟨hA, w', ws, b, t, ep⟩ := ho p rfl
    obtain ⟨ah, i, rs, fr⟩ := p
    dsimp only at ep hA
    subst ep
    have h1 := w hA.loop
    have h2 := w hA.body
    simp only [begins, msr, List.map_cons, List.map_nil, List.sum_cons, List.sum_nil, Pos'.go, if_true, norm_wt, Bool.false_eq_true, if_false]
    omega
/-- the ways told: at a say or a loop -/
def IsArr (n : Nat) (R : Rs) (x : Pos' × St') : Prop := At R x.1.ah x.1.i x.1.rs x.1.fr ∧ ((∃ w t, x.1.rs = .say w t) ∨ ∃ w ws b t, x.1.rs = .loop w ws b t) ∧ GoodSt n 1 x.2
def arrAll (ps : List (Pos' × St')) : List Arr := ps.flatMap fun x => arrs x.1 x.2
def up1 (ps : List (Pos' × St')) : List (Option Pos' × St') := ps.map fun x => (some x.1, x.2)
abbrev s__ways : Stmt := topS 42
theorem sc__ways : FnScope ["program", "start", "found", "ahead", "way", "place"] ["program", "start"] (defScope s__ways) := ⟨rfl, rfl, rfl, by decide +kernel, rfl, by decide +kernel, by decide +kernel⟩

def spWays (K : PySem.W.Frag) (C : Addr) : Sp := fun vs H Q _ => ∃ (x sa : Addr) (tops : List Int) (R : Rs) (o : Option Pos') (Ls : List Addr), vs = [.ref x, .ref sa] ∧ PgIn K H C x tops R ∧ BegOk R o ∧ SqT K H sa (nats (begPlace o)) ∧ (∀ L ∈ Ls, H L ≠ none) ∧
  ∀ (F : Addr) (fv : List V) (ps : List (Pos' × St')) (H' : Hp), H F = none → Same H H' → H' F = some (.lst fv) → A2 (WayIn K (F :: Ls) H') fv (up1 ps) → (∀ x ∈ ps, IsArr tops.length R x) → arrAll ps = pend (begins tops.length R o) → ps.length ≤ 20000 → Q (.ref F) H'
theorem ok__ways {f C : Addr} {fd : FuncData} {k : Nat} (F : Fun K "_ways" "_ways" s__ways f fd) (B : Bl mg) (qcl : Cls K C) (q_row : CalM P w K mg base k C "row" (spRowAt K C)) (c__beginnings : C8.Cal P w K mg base k "_beginnings" (spBegs K C) []) (c__further : C8.Cal P w K mg base k "_further" (spFurther K C) []) : FnOk P w K mg base CX0 (k + 1) f fd ["program", "start"] (spWays K C) := by
  refine F.ok sc__ways (fun vs H Q E h => ?_) (fun cdv A outer s H vs Q E hr h => ?_)
  · obtain ⟨x, sa, tops, R, o, Ls, rfl, _⟩ := h
    rfl
  obtain ⟨x, sa, tops, R, o, Ls, rfl, hP, hO, hsa, hLs, q⟩ := h
  refine ⟨_, (pss_cons (ps_set (i := 2) sc__ways.nd rfl (.inl rfl) (pe_lst pa_nil))
    (pss_cons (ps_set (i := 3) sc__ways.nd rfl (.inl rfl) (C8.pe_c c__beginnings hr (Nat.le_refl _) (by rfl) (pa_cons (pv 0) (pa_cons (pv 1) pa_nil))))
    (pss_cons (ps_while PassesOwn.never (pt_truth (pv 3) (by intro _; rfl))
      (pss_cons (ps_set (i := 4) sc__ways.nd rfl (.inl rfl) (pe_bm0 PySem.F.plainAttrs_list PySem.F.slot_list_pop PySem.F.type_list_pop mt_pop (pv 3)))
      (pss_cons (ps_set (i := 5) sc__ways.nd rfl (.inl rfl) (pe_ix (kIxT (K := K) rfl) (pv 4) pe_int (fun _ _ => rfl)))
      (pss_one (ps_if (pt_cmpR op_notN (pv 5) pe_non (nomark _))
        (pss_cons (ps_if (pt_cmpR (kIn (K := K) rfl) (pe_ix (kIxT (K := K) rfl) (pM q_row qcl hr (by omega) (pv 0) (pa_cons (pv 5) pa_nil)) pe_int (fun _ _ => rfl)) (pe_tup (pa_cons pe_str (pa_cons pe_str pa_nil))) (by rfl))
          (pss_one (ps_expr (pe_bm PySem.F.plainAttrs_list PySem.F.slot_list_append PySem.F.type_list_append mt_append (pv 2) (pa_cons (pv 4) pa_nil))))
          pss_nil)
        (pss_one (ps_expr (pe_bm PySem.F.plainAttrs_list PySem.F.slot_list_extend PySem.F.type_list_extend mt_extend (pv 3) (pa_cons (C8.pe_c c__further hr (Nat.le_refl _) (by rfl) (pa_cons (pv 0) (pa_cons (pv 4) pa_nil))) pa_nil)))))
        pss_nil)))))
    (pss_one (ps_ret (pv 2)))))), ?_⟩
  obtain ⟨hRW, hTW, hN, hD⟩ := pgT hP
  have ht3 := hTW.2.1
  have szl : (100000 : Nat) < sizeLine := by decide
  refine ⟨by show 0 ≤ sizeLine; decide, fun Fa nF => ?_⟩
  have sF := sameNew (o := .lst []) nF
  have nFs : ∀ L ∈ Fa :: Ls, upd H Fa (.lst []) L ≠ none := fun L hL => by
    rcases List.mem_cons.mp hL with e | hL
    · rw [e, upd_same]; simp
    · intro z
      cases e : H L with
      | none => exact hLs L hL e
      | some o => rw [sF _ _ e] at z; cases z
  refine ⟨_, rfl, _, rfl, x, sa, tops, R, o, Fa :: Ls, rfl, hP.same sF, hO, tupS sF hsa, nFs, fun L us H1 nL s1 hL hu => ?_⟩
  have nLF : L ≠ Fa := fun e => by rw [e, upd_same] at nL; cases nL
  have nL0 : H L = none := Same.free sF nL
  have s01 := Same.trans sF s1
  have hF1 : H1 Fa = some (.lst []) := s1 _ _ upd_same
  have m20 := msr_begins (n := tops.length) hN hO
  refine ⟨fun m σ H' => ∃ (av fv : List V) (stk : List (Option Pos' × St')) (ps : List (Pos' × St')) (y4 y5 : Option V), σ = [some (.ref x), some (.ref sa), some (.ref Fa), some (.ref L), y4, y5] ∧ Same H H' ∧ H' L = some (.lst av) ∧ H' Fa = some (.lst fv) ∧ A2 (WayIn K (L :: Fa :: Ls) H') av stk ∧ A2 (WayIn K (L :: Fa :: Ls) H') fv (up1 ps) ∧
    (∀ y ∈ stk, OkAt tops.length R y.1 y.2) ∧ (∀ y ∈ ps, IsArr tops.length R y) ∧ arrAll ps ++ pend stk = pend (begins tops.length R o) ∧ msr stk = m ∧ ps.length + m ≤ 20000,
    ⟨_, us, [], _, [], none, none, rfl, s01, hL, hF1, hu, .nil, ok_begins ht3 hRW hN hO, (by intro y hy; cases hy), rfl, rfl, (by simpa using m20)⟩, ?_⟩
  clear hu hL s1
  rintro m σ H2 ⟨av, fv, stk, ps, y4, y5, rfl, sm, hL, hF, hA2, hF2, hok, hps, hsem, hm, hl⟩
  refine ⟨_, rfl, !av.isEmpty, .inl ⟨av, .of hL, rfl⟩, ?_⟩
  rcases List.eq_nil_or_concat av with rfl | ⟨ys, y, rfl⟩
  · cases hA2
    refine iteF ⟨_, rfl, ?_⟩
    refine q Fa fv ps H2 nF sm hF (A2.map (B' := _) (fun _ _ _ r => r.less fun a ha => .inr (List.mem_cons_of_mem _ ha)) (fun _ m => m) hF2) hps ?_ (by omega)
    simpa [pend] using hsem
  rw [List.concat_eq_append] at hL hA2
  obtain ⟨qs, ⟨o1, st⟩, rfl, hY, hy⟩ := a2Snoc hA2
  have ne : (!(ys.concat y).isEmpty) = true := by simp
  rw [ne]
  refine iteT ⟨_, fun σ' H' z => z, ?_⟩
  have hoy := hok (o1, st) (by simp)
  rw [msr_app] at hm
  have m1 : msr [(o1, st)] = 2 * owt o1 + 1 := by simp [msr]
  rw [pend_app] at hsem
  have p1 : pend [(o1, st)] = oways o1 st := by simp [pend]
  rw [p1] at hsem
  -- way = ahead.pop()
  refine ⟨_, rfl, .inl ⟨rfl, _, .of hL⟩, L, _, y, rfl, rfl, hL, by simp, ?_⟩
  rw [List.dropLast_concat]
  have iL : L ∈ (L :: Fa :: Ls) := List.mem_cons_self ..
  have sm3 : Same H (upd H2 L (.lst ys)) := sameMut sm nL0
  have hL3 : upd H2 L (.lst ys) L = some (.lst ys) := upd_same
  have hF3 : upd H2 L (.lst ys) Fa = some (.lst fv) := by rw [upd_ne (Ne.symm nLF)]; exact hF
  have hY3 := waysMut (ys := ys) iL hL hY
  have hf3 := waysMut (ys := ys) iL hL hF2
  have hy3 := hy.mut (ys := ys) iL hL
  generalize upd H2 L (.lst ys) = H3 at *
  clear hL hF hY hF2 hy sm hA2
  have hy3' := hy3
  obtain ⟨t, tr, bl, wl, pv, bvs, wvs, rfl, h1, h2, h3, h4, h5, h6, h7, h8, h9⟩ := hy3'
  refine ⟨_, rfl, _, _, _, _, rfl, rfl, h1, atI_nat (j := 1) rfl, ?_⟩
  refine ⟨_, rfl, rfl, _, rfl, ?_⟩
  cases o1 with
  | none =>
    have e : pv = .non := h3
    rw [e]
    refine iteF ⟨_, ?_, ys, fv, qs, ps, _, _, rfl, sm3, hL3, hF3, hY3, hf3, fun y hy => hok y (List.mem_append_left _ hy), hps, by simpa [oways] using hsem, rfl, ?_⟩
    · omega
    · omega
  | some p =>
    obtain ⟨pa, rfl, h3⟩ := h3
    obtain ⟨hAp, hnp, hgp⟩ := hoy p rfl
    refine iteT ?_
    have lys := hY3.len
    have lst := msr_len qs
    have lf := hf3.len
    have lfp : fv.length = ps.length := by rw [lf]; simp [up1]
    -- program.row(place)[0] in ('say', 'loop')
    obtain ⟨dx, tt, aa, hx⟩ := (hP.same sm3).obj
    refine ⟨_, rfl, x, dx, _, rfl, hx, lkRow, _, rfl, rowSp (E := C8.E0) (hP.same sm3) hAp hnp h3 fun H4 v s4 hv => ?_⟩
    have sm4 := Same.trans sm3 s4
    have hL4 := s4 _ _ hL3
    have hF4 := s4 _ _ hF3
    have hY4 := waysS s4 hY3
    have hf4 := waysS s4 hf3
    have hy4 := hy3.same s4
    obtain ⟨ra, rx, kd, b, rfl, hR, e0, fk, ek, eb⟩ : ∃ (ra : Addr) (rx : List V) (kd : Str) (b : Bool), v = .ref ra ∧ SqT K H4 ra rx ∧ rx[0]? = some (.str kd) ∧ flatV (.str kd) = true ∧ inV (.str kd) [.str "say", .str "loop"] = b ∧ ((b = true ∧ ((∃ w t, p.rs = .say w t) ∨ ∃ w ws b t, p.rs = .loop w ws b t)) ∨ (b = false ∧ arrs p st = [])) := by
      obtain ⟨ah, i, rs, fr⟩ := p
      cases rs with
      | nil => cases hnp
      | put b s t =>
        cases hv with
        | @tup ra rx _ hR hRA =>
        cases hRA with
        | cons k0 kA =>
        cases k0
        exact ⟨ra, _, "put", false, rfl, hR, rfl, by decide +kernel, by decide +kernel, .inr ⟨rfl, rfl⟩⟩
      | say w t =>
        cases hv with
        | @tup ra rx _ hR hRA =>
        cases hRA with
        | cons k0 kA =>
        cases k0
        exact ⟨ra, _, "say", true, rfl, hR, rfl, by decide +kernel, by decide +kernel, .inl ⟨rfl, .inl ⟨_, _, rfl⟩⟩⟩
      | ite w a b t =>
        cases hv with
        | @tup ra rx _ hR hRA =>
        cases hRA with
        | cons k0 kA =>
        cases k0
        exact ⟨ra, _, "if", false, rfl, hR, rfl, by decide +kernel, by decide +kernel, .inr ⟨rfl, rfl⟩⟩
      | loop w ws b t =>
        cases hv with
        | @tup ra rx _ hR hRA =>
        cases hRA with
        | cons k0 kA =>
        cases k0
        exact ⟨ra, _, "loop", true, rfl, hR, rfl, by decide +kernel, by decide +kernel, .inl ⟨rfl, .inr ⟨_, _, _, _, rfl⟩⟩⟩
    refine ⟨_, _, _, _, rfl, rfl, hR, atI_nat (j := 0) e0, ?_⟩
    refine ⟨by show 2 ≤ sizeLine; decide, fun T nT => ⟨T, _, rfl, .inr (.of upd_same), fk, by decide +kernel, ?_⟩⟩
    have sT := sameNew (o := .tup [.str "say", .str "loop"]) nT
    have sm5 := Same.trans sm4 sT
    have hL5 := sT _ _ hL4
    have hF5 := sT _ _ hF4
    have hY5 := waysS sT hY4
    have hf5 := waysS sT hf4
    have hy5 := hy4.same sT
    rw [if_neg Bool.false_ne_true, ek]
    generalize upd H4 T (.tup [.str "say", .str "loop"]) = H5 at *
    clear hL4 hF4 hY4 hf4 hy4 sm4 hL3 hF3 hY3 hf3 hy3
    have iF : Fa ∈ (L :: Fa :: Ls) := List.mem_cons_of_mem _ (List.mem_cons_self ..)
    have wf := ways_further p st hnp
    have mp : 1 ≤ omx (some p) := by
      obtain ⟨ah, i, rs, fr⟩ := p
      cases rs with
      | nil => cases hnp
      | _ => simp only [omx, mx]; omega
    have mf := msr_further (st := st) hnp
    refine ⟨_, rfl, ?_⟩
    refine ifB (fun c => ?_) (fun c => ?_)
    · obtain ⟨_, kind⟩ : b = true ∧ ((∃ w t, p.rs = .say w t) ∨ ∃ w ws b t, p.rs = .loop w ws b t) := eb.resolve_right fun z => by rw [c] at z; cases z.1
      refine ⟨_, rfl, .inl ⟨rfl, _, .of hF5⟩, _, rfl, Fa, fv, .ref t, rfl, rfl, hF5, by omega, ?_⟩
      have nF0 : H Fa = none := nF
      have sm6 : Same H (upd H5 Fa (.lst (fv ++ [.ref t]))) := sameMut sm5 nF0
      have hL6 : upd H5 Fa (.lst (fv ++ [.ref t])) L = some (.lst ys) := by rw [upd_ne nLF]; exact hL5
      have hF6 : upd H5 Fa (.lst (fv ++ [.ref t])) Fa = some (.lst (fv ++ [.ref t])) := upd_same
      have hY6 := waysMut (ys := fv ++ [.ref t]) iF hF5 hY5
      have hy6 := hy5.mut (ys := fv ++ [.ref t]) iF hF5
      have hf6 := waysMut (ys := fv ++ [.ref t]) iF hF5 hf5
      generalize upd H5 Fa (.lst (fv ++ [.ref t])) = H6 at *
      clear hL5 hF5 hY5 hf5 hy5 sm5
      have gf : A2 (WayIn K (L :: Fa :: Ls) H6) (fv ++ [.ref t]) (up1 (ps ++ [(p, st)])) := by
        rw [show up1 (ps ++ [(p, st)]) = up1 ps ++ [(some p, st)] by simp [up1]]
        exact hf6.app (.cons hy6 .nil)
      have ga : arrs p st = arrAll [(p, st)] := by simp [arrAll]
      have gp : ∀ y ∈ ps ++ [(p, st)], IsArr tops.length R y := fun y hy => by
        rcases List.mem_append.mp hy with hy | hy
        · exact hps y hy
        · rw [List.mem_singleton.mp hy]
          exact ⟨hAp, kind, hgp.less mp⟩
      have gs : arrAll (ps ++ [(p, st)]) ++ (pend (further p st) ++ pend qs) = pend (begins tops.length R o) := by
        rw [← hsem, wf, ga]
        simp [arrAll]
      have l1 : (ps ++ [(p, st)]).length = ps.length + 1 := by simp
      refine ⟨_, rfl, .inl ⟨rfl, _, .of hL6⟩, _, rfl, _, rfl, x, .ref t, tops, R, p, st, (L :: Fa :: Ls), rfl, hP.same sm6, hAp, hnp, hy6, hgp.less mp, ?_, fun l us H7 nl s7 hl hu => ?_⟩
      · intro a ha z
        rcases List.mem_cons.mp ha with e | ha
        · rw [e, hL6] at z; cases z
        rcases List.mem_cons.mp ha with e | ha
        · rw [e, hF6] at z; cases z
        cases e : H a with
        | none => exact hLs a ha e
        | some o => rw [sm6 _ _ e] at z; cases z
      have lus := hu.len
      have lF := msr_len (further p st)
      have sm7 := Same.trans sm6 s7
      have hL7 := s7 _ _ hL6
      have hF7 := s7 _ _ hF6
      refine ⟨L, l, ys, us, rfl, rfl, hL7, hl, by omega, ?_⟩
      have hu8 := waysMut (ys := ys ++ us) (List.mem_cons_of_mem l iL) hL7 hu
      have hY8 := waysMut (ys := ys ++ us) iL hL7 (waysS s7 hY6)
      have hf8 := waysMut (ys := ys ++ us) iL hL7 (waysS s7 gf)
      have hu9 : A2 (WayIn K (L :: Fa :: Ls) (upd H7 L (.lst (ys ++ us)))) us (further p st) := A2.map (B' := _) (fun _ _ _ r => r.less fun a ha => .inr (List.mem_cons_of_mem _ ha)) (fun _ m => m) hu8
      refine ⟨_, ?_, ys ++ us, fv ++ [.ref t], qs ++ further p st, ps ++ [(p, st)], _, _, rfl, sameMut sm7 nL0, upd_same, by rw [upd_ne (Ne.symm nLF)]; exact hF7, hY8.app hu9, hf8, fun y hy => ?_, gp, ?_, rfl, ?_⟩
      · rw [msr_app]; omega
      · rcases List.mem_append.mp hy with hy | hy
        · exact hok y (List.mem_append_left _ hy)
        · exact ok_further ht3 hRW hAp hnp hgp y hy
      · rw [pend_app]; exact gs
      · rw [msr_app]; omega
    · have ea : arrs p st = [] := (eb.resolve_left fun z => by rw [c] at z; cases z.1).2
      have gs : arrAll ps ++ (pend (further p st) ++ pend qs) = pend (begins tops.length R o) := by
        rw [← hsem, wf, ea]
        simp
      refine ⟨_, rfl, .inl ⟨rfl, _, .of hL5⟩, _, rfl, _, rfl, x, .ref t, tops, R, p, st, (L :: Fa :: Ls), rfl, hP.same sm5, hAp, hnp, hy5, hgp.less mp, ?_, fun l us H7 nl s7 hl hu => ?_⟩
      · intro a ha z
        rcases List.mem_cons.mp ha with e | ha
        · rw [e, hL5] at z; cases z
        rcases List.mem_cons.mp ha with e | ha
        · rw [e, hF5] at z; cases z
        cases e : H a with
        | none => exact hLs a ha e
        | some o => rw [sm5 _ _ e] at z; cases z
      have lus := hu.len
      have lF := msr_len (further p st)
      have sm7 := Same.trans sm5 s7
      have hL7 := s7 _ _ hL5
      have hF7 := s7 _ _ hF5
      refine ⟨L, l, ys, us, rfl, rfl, hL7, hl, by omega, ?_⟩
      have hu8 := waysMut (ys := ys ++ us) (List.mem_cons_of_mem l iL) hL7 hu
      have hY8 := waysMut (ys := ys ++ us) iL hL7 (waysS s7 hY5)
      have hf8 := waysMut (ys := ys ++ us) iL hL7 (waysS s7 hf5)
      have hu9 : A2 (WayIn K (L :: Fa :: Ls) (upd H7 L (.lst (ys ++ us)))) us (further p st) := A2.map (B' := _) (fun _ _ _ r => r.less fun a ha => .inr (List.mem_cons_of_mem _ ha)) (fun _ m => m) hu8
      refine ⟨_, ?_, ys ++ us, fv, qs ++ further p st, ps, _, _, rfl, sameMut sm7 nL0, upd_same, by rw [upd_ne (Ne.symm nLF)]; exact hF7, hY8.app hu9, hf8, fun y hy => ?_, hps, ?_, rfl, ?_⟩
      · rw [msr_app]; omega
      · rcases List.mem_append.mp hy with hy | hy
        · exact hok y (List.mem_append_left _ hy)
        · exact ok_further ht3 hRW hAp hnp hgp y hy
      · rw [pend_app]; exact gs
      · rw [msr_app]; omega

end

end LW

namespace LW
open PySem PySem.Spec PyProof.Rows L2
local macro_rules | `(tactic| walk_at "go1") => `(tactic| first
  | refine ⟨_, rfl, ?_⟩
  | refine ⟨_, _, rfl, rfl, ?_⟩
  | refine ⟨show (0 : Int) < _ from by omega, ?_⟩
  | refine ⟨show CMul _ _ from by first | exact .inl ⟨by omega, by omega⟩ | exact .inr ⟨by omega, by omega⟩, ?_⟩
  | refine ⟨show CDiv _ _ from ⟨by omega, by omega⟩, ?_⟩)
local macro_rules | `(tactic| walk_at "go") => `(tactic| repeat walk_at "go1")

section
variable {P : Program} {w : World} {K : PySem.W.Frag} {mg : Str → Option Value} {base : Heap}

/-- a task -/
structure Tk where
  start : List Nat
  truths : List Bool
  place : List Nat
  number : Nat
  many : Nat
  sums : List Sm
def askA (tops : List Int) (a : Arr) : List Sm := a.ws ++ if a.isLoop then bnd tops else []
def tkOf (s : List Nat) (a : Arr) (q : Sm × Nat) : Tk := ⟨s, a.st.truths, a.place, q.2, a.st.many, a.st.words ++ [pIn (opp q.1) a.st.boxes]⟩
def tkArr (tops : List Int) (s : List Nat) (a : Arr) : List Tk := (askA tops a).zipIdx.map (tkOf s a)
def begs (R : Rs) : List (Option Pos') := none :: (loopsP R [] 0 .top).map some
def tkBeg (tops : List Int) (R : Rs) (o : Option Pos') : List Tk := (pend (begins tops.length R o)).flatMap (tkArr tops (begPlace o))
def tasksP (tops : List Int) (R : Rs) : List Tk := (begs R).flatMap (tkBeg tops R)
theorem loPos : ∀ (rs : Rs) (r : Nat) (ah : List Nat) (i : Nat) (fr : Fr), rs.dep ≤ r → loP ((rs.ds.zipIdx i).flatMap fun q => plRow (plD r) (ah ++ [q.2]) q.1) = (loopsP rs ah i fr).map Pos'.at_
  | .nil, _, _, _, _, _ => rfl
  | .put b s t, r, ah, i, fr, h => by
    have ih := loPos t r ah (i + 1) fr h
    rw [Rs.ds, List.zipIdx_cons, List.flatMap_cons, loP_app, plR_put, loP_no (by simp [isLp, kinds]), ih]
    rfl
  | .say w t, r, ah, i, fr, h => by
    have ih := loPos t r ah (i + 1) fr h
    rw [Rs.ds, List.zipIdx_cons, List.flatMap_cons, loP_app, plR_say, loP_no (by simp [isLp, kinds]), ih]
    rfl
  | .ite w a b t, r, ah, i, fr, h => by
    simp only [Rs.dep] at h
    obtain ⟨r', rfl⟩ : ∃ r', r = r' + 1 := ⟨r - 1, by omega⟩
    have ih := loPos t (r' + 1) ah (i + 1) fr (by omega)
    have ia := loPos a r' (ah ++ [i, 0]) 0 (.ifF ah (i + 1) t fr) (by omega)
    have ib := loPos b r' (ah ++ [i, 1]) 0 (.ifF ah (i + 1) t fr) (by omega)
    rw [Rs.ds, List.zipIdx_cons, List.flatMap_cons, loP_app, plR_if, ih, show ∀ (d : Pd) (l : List Pd), d :: l = [d] ++ l from fun _ _ => rfl, loP_app, loP_no (by simp [isLp, kinds]), loP_app]
    rw [List.append_assoc, List.append_assoc]
    show loP ((a.ds.zipIdx 0).flatMap _) ++ (loP ((b.ds.zipIdx 0).flatMap _) ++ _) = _
    dsimp only
    rw [show ah ++ [i] ++ [0] = ah ++ [i, 0] by simp, show ah ++ [i] ++ [1] = ah ++ [i, 1] by simp, ia, ib]
    simp [loopsP]
  | .loop w ws b t, r, ah, i, fr, h => by
    simp only [Rs.dep] at h
    obtain ⟨r', rfl⟩ : ∃ r', r = r' + 1 := ⟨r - 1, by omega⟩
    have ih := loPos t (r' + 1) ah (i + 1) fr (by omega)
    have ib := loPos b r' (ah ++ [i, 0]) 0 (.loopF ah i w ws b t fr) (by omega)
    rw [Rs.ds, List.zipIdx_cons, List.flatMap_cons, loP_app, plR_loop, ih, show ∀ (d : Pd) (l : List Pd), d :: l = [d] ++ l from fun _ _ => rfl, loP_app, loP_one (by simp [isLp, kinds])]
    rw [List.append_assoc]
    show _ ++ (loP ((b.ds.zipIdx 0).flatMap _) ++ _) = _
    dsimp only
    rw [show ah ++ [i] ++ [0] = ah ++ [i, 0] by simp, ib]
    simp [loopsP, Pos'.at_]
theorem begs_places {R : Rs} (hd : R.dep ≤ 3) : (begs R).map begPlace = [] :: loP (plD 4 R.ds []) := by
  have h := loPos R 3 [] 0 .top hd
  rw [show plD 4 R.ds [] = (R.ds.zipIdx 0).flatMap fun q => plRow (plD 3) ([] ++ [q.2]) q.1 from rfl, h]
  simp [begs, begPlace, Pos'.at_]
theorem begs_ok {R : Rs} : ∀ o ∈ begs R, BegOk R o := fun o ho p e => by
  subst e
  simp [begs] at ho
  exact loopsP_at .top p ho
theorem begs_len {R : Rs} (hn : R.num ≤ 12) : (begs R).length ≤ 13 := by
  have := loopsP_len R [] 0 .top
  simp [begs]
  omega
/-- a task's sums are good -/
def GoodTk (n : Nat) (t : Tk) : Prop := (∀ s ∈ t.sums, s.1.length = n ∧ Wd 400 s.2 ∧ ∀ x ∈ s.1, Wd 400 x) ∧ 1 ≤ t.sums.length ∧ t.sums.length ≤ 18 ∧ t.many ≤ 14 ∧ t.truths.length ≤ 14 ∧ t.number ≤ 9
/-- a place where something is asked -/
def AskOk (tops : List Int) (a : Arr) : Prop := GoodSt tops.length 1 a.st ∧ (askA tops a).length ≤ 9 ∧ ∀ s ∈ askA tops a, s.1.length = tops.length ∧ Wd 8 s.2 ∧ ∀ x ∈ s.1, Wd 8 x
theorem tkGood {tops : List Int} {s : List Nat} {a : Arr} (n3 : tops.length ≤ 3) (h : AskOk tops a) : ∀ t ∈ tkArr tops s a, GoodTk tops.length t := fun t ht => by
  obtain ⟨⟨g1, g2, g3, g4, g5, g6⟩, h2, h3⟩ := h
  obtain ⟨⟨w, j⟩, hq, rfl⟩ := List.mem_map.mp ht
  have hj := List.mem_zipIdx_iff_getElem?.mp hq
  have hw := h3 w (List.mem_of_getElem? hj)
  have lj : j < (askA tops a).length := (List.getElem?_eq_some_iff.mp hj).1
  refine ⟨fun x hx => ?_, by simp [tkOf], by simp [tkOf]; omega, by simp [tkOf]; omega, by simp [tkOf]; omega, by simp [tkOf]; omega⟩
  rcases List.mem_append.mp hx with hx | hx
  · exact good3 (g4 x hx) (by omega)
  · rw [List.mem_singleton.mp hx]
    exact good3 (pIn_step g3 g2 n3 (opp_good hw)) (by omega)
/-- what a told way asks -/
def theArr (p : Pos') (st : St') : Arr := ⟨st, p.ah ++ [p.i], match p.rs with | .loop .. => true | _ => false, match p.rs with | .say w _ => [w] | .loop _ ws _ _ => ws | _ => []⟩
theorem arrOne {n : Nat} {R : Rs} {x : Pos' × St'} (h : IsArr n R x) : arrs x.1 x.2 = [theArr x.1 x.2] := by
  obtain ⟨⟨ah, i, rs, fr⟩, st⟩ := x
  obtain ⟨_, ⟨w, t, e⟩ | ⟨w, ws, b, t, e⟩, _⟩ := h <;> (dsimp only at e; subst e; rfl)
theorem arrAsk {tops : List Int} {n : Nat} {R : Rs} {x : Pos' × St'} (h : IsArr n R x) : askA tops (theArr x.1 x.2) = askP tops x.1.rs := by
  obtain ⟨⟨ah, i, rs, fr⟩, st⟩ := x
  obtain ⟨_, ⟨w, t, e⟩ | ⟨w, ws, b, t, e⟩, _⟩ := h <;> (dsimp only at e; subst e; simp [askA, theArr, askP])
theorem arrAll_map {n : Nat} {R : Rs} : ∀ {ps : List (Pos' × St')}, (∀ x ∈ ps, IsArr n R x) → arrAll ps = ps.map fun x => theArr x.1 x.2
  | [], _ => rfl
  | x :: r, h => by
    rw [arrAll, List.flatMap_cons, arrOne (h x (List.mem_cons_self ..))]
    show _ :: arrAll r = _
    rw [arrAll_map fun y hy => h y (List.mem_cons_of_mem _ hy)]
    rfl
def TkA (K : PySem.W.Frag) (Ls : List Addr) (H : Hp) (v : V) (p : Tk × Addr) : Prop := ∃ (a sa tr pa : Addr) (wvs : List V), v = .ref a ∧ SqT K H a [.ref sa, .ref tr, .ref pa, .int (p.1.number : Int), .int (p.1.many : Int), .ref p.2] ∧ SqT K H sa (nats p.1.start) ∧ SqT K H tr (p.1.truths.map V.bl) ∧ SqT K H pa (nats p.1.place) ∧ H p.2 = some (.lst wvs) ∧ A2 (SumIn K H) wvs p.1.sums ∧ p.2 ∉ Ls
theorem TkA.same {Ls : List Addr} {H H' : Hp} {v : V} {t : Tk × Addr} (e : Same H H') (h : TkA K Ls H v t) : TkA K Ls H' v t := by
  obtain ⟨a, sa, tr, pa, wvs, e0, h1, h2, h3, h4, h5, h6, h7⟩ := h
  exact ⟨a, sa, tr, pa, wvs, e0, tupS e h1, tupS e h2, tupS e h3, tupS e h4, e _ _ h5, sumsS (tsOf e) h6, h7⟩
theorem TkA.mut {Ls : List Addr} {H : Hp} {L : Addr} {xs ys : List V} {v : V} {t : Tk × Addr} (hL : L ∈ Ls) (e : H L = some (.lst xs)) (h : TkA K Ls H v t) : TkA K Ls (upd H L (.lst ys)) v t := by
  obtain ⟨a, sa, tr, pa, wvs, e0, h1, h2, h3, h4, h5, h6, h7⟩ := h
  have t0 : TS H (upd H L (.lst ys)) := tsLst e
  refine ⟨a, sa, tr, pa, wvs, e0, tsTup t0 h1, tsTup t0 h2, tsTup t0 h3, tsTup t0 h4, ?_, sumsS t0 h6, h7⟩
  rw [upd_ne (fun e => h7 (by rw [e]; exact hL))]
  exact h5
theorem TkA.has {Ls : List Addr} {H : Hp} {v : V} {t : Tk × Addr} (h : TkA K Ls H v t) : H t.2 ≠ none := by
  obtain ⟨a, sa, tr, pa, wvs, e0, h1, h2, h3, h4, h5, h6, h7⟩ := h
  rw [h5]
  simp
theorem a2All {α β : Type} {R : α → β → Prop} : ∀ {a : List α} {b : List β}, A2 R a b → ∀ y ∈ b, ∃ x ∈ a, R x y
  | _, _, .nil, y, h => by cases h
  | _, _, .cons r t, y, h => by
    rcases List.mem_cons.mp h with rfl | h
    · exact ⟨_, List.mem_cons_self .., r⟩
    · obtain ⟨x, hx, hr⟩ := a2All t y h
      exact ⟨x, List.mem_cons_of_mem _ hx, hr⟩
/-- tasks told in a list, each with a list of sums of its own -/
def TksIn (K : PySem.W.Frag) (L : Addr) (H0 H : Hp) (us : List V) (X : List Tk) : Prop := ∃ ps : List (Tk × Addr), ps.map (·.1) = X ∧ A2 (TkA K [L] H) us ps ∧ (ps.map (·.2)).Nodup ∧ ∀ p ∈ ps, H0 p.2 = none
theorem TksIn.nil {L : Addr} {H0 H : Hp} : TksIn K L H0 H [] [] := ⟨[], rfl, .nil, List.nodup_nil, fun p hp => by cases hp⟩
theorem TksIn.len {L : Addr} {H0 H : Hp} {us : List V} {X : List Tk} (h : TksIn K L H0 H us X) : us.length = X.length := by
  obtain ⟨ps, rfl, h1, _⟩ := h
  rw [List.length_map]
  exact h1.len
theorem TksIn.same {L : Addr} {H0 H H' : Hp} {us : List V} {X : List Tk} (h : TksIn K L H0 H us X) (e : Same H H') : TksIn K L H0 H' us X := by
  obtain ⟨ps, h0, h1, h2⟩ := h
  exact ⟨ps, h0, A2.map (B' := ps) (fun _ _ _ r => r.same e) (fun _ m => m) h1, h2⟩
theorem TksIn.snoc {L Z : Addr} {H0 Hb H : Hp} {us xs ys : List V} {X : List Tk} {v : V} {t : Tk} (h : TksIn K L H0 Hb us X) (nz : Hb Z = none) (n0 : H0 Z = none) (s : Same Hb H) (hL : H L = some (.lst xs)) (hn : TkA K [L] H v (t, Z)) : TksIn K L H0 (upd H L (.lst ys)) (us ++ [v]) (X ++ [t]) := by
  obtain ⟨ps, rfl, h1, h2, h3⟩ := h
  have iL : L ∈ [L] := List.mem_singleton.mpr rfl
  refine ⟨ps ++ [(t, Z)], by simp, A2.app (A2.map (B' := ps) (fun _ _ _ r => (r.same s).mut iL hL) (fun _ m => m) h1) (.cons (hn.mut iL hL) .nil), ?_, fun p hp => ?_⟩
  · rw [List.map_append, List.nodup_append]
    refine ⟨h2, by simp, fun a ha b hb => ?_⟩
    obtain ⟨p, hp, rfl⟩ := List.mem_map.mp ha
    simp at hb
    subst hb
    obtain ⟨u, _, hr⟩ := a2All h1 p hp
    exact fun e => hr.has (by rw [e]; exact nz)
  · rcases List.mem_append.mp hp with hp | hp
    · exact h3 p hp
    · rw [List.mem_singleton.mp hp]
      exact n0
/-- all but one list stays -/
theorem butTL {ds : Addr} {H H' : Hp} {xs : List V} (e : But ds H H') (hd : H ds = some (.lst xs)) : TS H H' := fun a =>
  ⟨fun ys h => e _ _ (fun z => by rw [z, hd] at h; cases h) h, fun o u h => by
    by_cases z : a = ds
    · subst z
      rw [hd] at h
      cases h
    · exact e _ _ z h⟩
theorem butMut {L : Addr} {H H' : Hp} {o : HO} (e : But L H H') : But L H (upd H' L o) := fun b p n h => by
  rw [upd_ne n]
  exact e b p n h
theorem sameButL {L : Addr} {H0 H H' : Hp} (s : Same H0 H) (n : H0 L = none) (e : But L H H') : Same H0 H' := fun b o h => e b o (fun z => by rw [z, n] at h; cases h) (s b o h)
theorem WayIn.but {Ls : List Addr} {H H' : Hp} {L : Addr} {xs : List V} {v : V} {x : Option Pos' × St'} (hL : L ∈ Ls) (e : But L H H') (h0 : H L = some (.lst xs)) (h : WayIn K Ls H v x) : WayIn K Ls H' v x := by
  obtain ⟨t, tr, bl, wl, pv, bvs, wvs, e0, h1, h2, h3, h4, h5, h6, h7, h8, h9⟩ := h
  have t0 := butTL e h0
  exact ⟨t, tr, bl, wl, pv, bvs, wvs, e0, tsTup t0 h1, tsTup t0 h2, h3.ts t0, e _ _ (fun z => h8 (by rw [z]; exact hL)) h4, sumsS t0 h5, e _ _ (fun z => h9 (by rw [z]; exact hL)) h6, sumsS t0 h7, h8, h9⟩
theorem lkLoops {a b : V} : List.lookup ("loops" : Str) ([(("_tops" : Str), a), (("rows" : Str), b)] : List (Str × V)) = none := lkTopsNo (by decide +kernel) (by decide +kernel)
theorem flatTakeA {α β : Type} {l : List α} {f : α → List β} {i : Nat} {d : α} (e : l[i]? = some d) : (l.take (i + 1)).flatMap f = (l.take i).flatMap f ++ f d := by
  obtain ⟨hi, e1⟩ := List.getElem?_eq_some_iff.mp e
  subst e1
  rw [List.take_succ_eq_append_getElem hi, List.flatMap_append]
  simp
theorem mapTakeA {α β : Type} {l : List α} {f : α → β} {i : Nat} {d : α} (e : l[i]? = some d) : (l.take (i + 1)).map f = (l.take i).map f ++ [f d] := by
  obtain ⟨hi, e1⟩ := List.getElem?_eq_some_iff.mp e
  subst e1
  rw [List.take_succ_eq_append_getElem hi, List.map_append]
  simp
abbrev s_tasks : Stmt := topS 41
theorem sc_tasks : FnScope ["program", "told", "start", "truths", "place", "many", "boxes", "words", "number", "word", "last"] ["program"] (defScope s_tasks) := ⟨rfl, rfl, rfl, by decide +kernel, rfl, by decide +kernel, by decide +kernel⟩

def spTasks (K : PySem.W.Frag) (C : Addr) : Sp := fun vs H Q _ => ∃ (x : Addr) (tops : List Int) (R : Rs), vs = [.ref x] ∧ PgIn K H C x tops R ∧
  ∀ (l : Addr) (us : List V) (H' : Hp), H l = none → Same H H' → H' l = some (.lst us) → TksIn K l H H' us (tasksP tops R) → (∀ t ∈ tasksP tops R, GoodTk tops.length t) → us.length ≤ 3000000 → Q (.ref l) H'
theorem ok_tasks {f C : Addr} {fd : FuncData} {k : Nat} (F : Fun K "tasks" "tasks" s_tasks f fd) (B : Bl mg) (qcl : Cls K C) (q_loops : CalM P w K mg base (k + 1) C "loops" (spLoops K C)) (c__ways : C8.Cal P w K mg base (k + 1) "_ways" (spWays K C) []) (c_asked : C8.Cal P w K mg base (k + 1) "asked" (spAsked K C) []) (c_put_in : C8.Cal P w K mg base (k + 1) "put_in" (spPut K) []) (c_opposite : C8.Cal P w K mg base (k + 1) "opposite" (spOpp K) []) : FnOk P w K mg base CX0 (k + 2) f fd ["program"] (spTasks K C) := by
  refine F.ok sc_tasks (fun vs H Q E h => ?_) (fun cdv A outer s H vs Q E hr h => ?_)
  · obtain ⟨x, tops, R, rfl, _⟩ := h
    rfl
  obtain ⟨x, tops, R, rfl, hP, q⟩ := h
  refine ⟨_, (pss_cons (ps_set (i := 1) sc_tasks.nd rfl (.inl rfl) (pe_lst pa_nil))
    (pss_cons (ps_for PassesOwn.never rfl (kList_ (K := K) rfl (pe_op op_cat (pe_lst (pa_cons (pe_tup pa_nil) pa_nil)) (pM0 q_loops qcl hr (by omega) (pv 0)))) (pg_name (i := 2) sc_tasks.nd rfl (.inl rfl))
      (pss_one (ps_for PassesOwn.never rfl (kList_ (K := K) rfl (C8.pe_c c__ways hr (Nat.le_refl _) (by rfl) (pa_cons (pv 0) (pa_cons (pv 2) pa_nil)))) (kTn (K := K) rfl rfl (pgs_cons (pg_name (i := 3) sc_tasks.nd rfl (.inl rfl)) (pgs_cons (pg_name (i := 4) sc_tasks.nd rfl (.inl rfl)) (pgs_cons (pg_name (i := 5) sc_tasks.nd rfl (.inl rfl)) (pgs_cons (pg_name (i := 6) sc_tasks.nd rfl (.inl rfl)) (pgs_cons (pg_name (i := 7) sc_tasks.nd rfl (.inl rfl)) pgs_nil))))))
        (pss_one (ps_for PassesOwn.never rfl (kE (K := K) rfl false (by rfl) B.enumerate (pa_cons (C8.pe_c c_asked hr (Nat.le_refl _) (by rfl) (pa_cons (pv 0) (pa_cons (pv 4) pa_nil))) pa_nil)) (kT2 (K := K) rfl rfl (pg_name (i := 8) sc_tasks.nd rfl (.inl rfl)) (pg_name (i := 9) sc_tasks.nd rfl (.inl rfl)))
          (pss_cons (ps_set (i := 10) sc_tasks.nd rfl (.inl rfl) (C8.pe_c c_put_in hr (Nat.le_refl _) (by rfl) (pa_cons (C8.pe_c c_opposite hr (Nat.le_refl _) (by rfl) (pa_cons (pv 9) pa_nil)) (pa_cons (pv 6) pa_nil))))
          (pss_one (ps_expr (pe_bm PySem.F.plainAttrs_list PySem.F.slot_list_append PySem.F.type_list_append mt_append (pv 1) (pa_cons (pe_tup (pa_cons (pv 2) (pa_cons (pv 3) (pa_cons (pv 4) (pa_cons (pv 8) (pa_cons (pv 5) (pa_cons (pe_op op_cat (pv 7) (pe_lst (pa_cons (pv 10) pa_nil))) pa_nil))))))) pa_nil))))))))))
    (pss_one (ps_ret (pv 1))))), ?_⟩
  obtain ⟨hRW, hTW, hN, hD⟩ := pgT hP
  have ht3 := hTW.2.1
  have ht1 := hTW.1
  obtain ⟨dx, tt, aa, hx⟩ := hP.obj
  have szl : (10000000 : Nat) < sizeLine := by decide
  refine ⟨by show 0 ≤ sizeLine; decide, fun L nL => ?_⟩
  have sL := sameNew (o := .lst []) nL
  refine ⟨by show 0 ≤ sizeLine; decide, fun T nT => ⟨by show 1 ≤ sizeLine; decide, fun A nA => ?_⟩⟩
  have sT := sameNew (o := .tup []) nT
  have sA := sameNew (o := .lst [.ref T]) nA
  have s0A := Same.trans sL (Same.trans sT sA)
  have hLA : upd (upd (upd H L (.lst [])) T (.tup [])) A (.lst [.ref T]) L = some (.lst []) := Same.trans sT sA _ _ upd_same
  have hTA : SqT K (upd (upd (upd H L (.lst [])) T (.tup [])) A (.lst [.ref T])) T [] := .of (sA _ _ upd_same)
  have hAA : upd (upd (upd H L (.lst [])) T (.tup [])) A (.lst [.ref T]) A = some (.lst [.ref T]) := upd_same
  generalize upd (upd (upd H L (.lst [])) T (.tup [])) A (.lst [.ref T]) = H1 at *
  obtain ⟨a, xs, g1, g2, g3, g4, g5, g6, g7, g8⟩ := hP.same s0A
  have hc : cnt 4 (.tup R.ds) ≤ 1000 := by rw [rs_cnt R 3 g6]; omega
  refine ⟨_, rfl, x, dx, _, rfl, s0A _ _ hx, lkLoops, tops.length, x, a, tops, xs, R.ds, rfl, g1, g2, g3, g4, hc, fun pl H2 lv npl s2 hpl hlv => ?_⟩
  have hlvP := hlv.len
  have hbl := begs_len hN
  have eBP := begs_places hD
  have lBP := congrArg List.length eBP
  rw [List.length_map, List.length_cons] at lBP
  refine ⟨A, pl, _, _, rfl, rfl, s2 _ _ hAA, hpl, by rw [List.length_singleton]; omega, fun S nS => ?_⟩
  have sS := sameNew (o := .lst ([.ref T] ++ lv)) nS
  have hL3 := sS _ _ (s2 _ _ hLA)
  have hS3 : upd H2 S (.lst ([.ref T] ++ lv)) S = some (.lst ([.ref T] ++ lv)) := upd_same
  have hV3 : A2 (PlcIn K (upd H2 S (.lst ([.ref T] ++ lv)))) ([.ref T] ++ lv) ((begs R).map begPlace) := by
    rw [eBP]
    exact .cons ⟨T, rfl, tupS (Same.trans s2 sS) hTA⟩ (plcTS (tsOf sS) hlv)
  have s03 := Same.trans s0A (Same.trans s2 sS)
  have nSL : S ≠ L := fun e => by
    have := s2 _ _ hLA
    rw [← e, nS] at this
    cases this
  generalize upd H2 S (.lst ([.ref T] ++ lv)) = H3 at *
  generalize [V.ref T] ++ lv = sv at *
  have lsv := hV3.len
  rw [List.length_map] at lsv
  clear hLA hTA hAA g1 g2 g3 npl s2 hpl hlv sS nS sA nA sT nT sL hlvP lBP
  refine ⟨S, rfl, ⟨_, .of hS3⟩, ?_⟩
  refine for_it (walk_list (xs := sv)) (fun j σ H' => But L H3 H' ∧ ∃ (us : List V) (y2 y3 y4 y5 y6 y7 y8 y9 y10 : Option V), σ = [some (.ref x), some (.ref L), y2, y3, y4, y5, y6, y7, y8, y9, y10] ∧ H' L = some (.lst us) ∧ TksIn K L H H' us (((begs R).take j).flatMap (tkBeg tops R)) ∧ (∀ t ∈ ((begs R).take j).flatMap (tkBeg tops R), GoodTk tops.length t) ∧ us.length ≤ 180000 * j)
    ⟨But.refl _ _, [], none, none, none, none, none, none, none, none, none, rfl, hL3, .nil, (by intro t ht; cases ht), Nat.le_refl _⟩ (fun j σ H' _ p => .of (p.1 _ _ nSL hS3)) (fun j xv σ H4 H4' hj p y => ?_) (fun σ H' p => ?_)
  · obtain ⟨b4, us, y2, y3, y4, y5, y6, y7, y8, y9, y10, rfl, hL4, hU4, hG4, hl4⟩ := p
    obtain ⟨rfl, ex⟩ := y
    obtain ⟨plc, epl, sa, rfl, hsa3⟩ := A2.at hV3 ex
    rw [List.getElem?_map] at epl
    obtain ⟨o, eo, rfl⟩ := Option.map_eq_some_iff.mp epl
    have hsa4 : SqT K H4' sa (nats (begPlace o)) := tsTup (butTL b4 hL3) hsa3
    have s04 := sameButL s03 nL b4
    have mo := List.mem_of_getElem? eo
    refine ⟨_, rfl, _, rfl, x, sa, tops, R, o, [L], rfl, hP.same s04, begs_ok o mo, hsa4, (fun M hM => by rw [List.mem_singleton.mp hM, hL4]; simp), fun Fl fv ps H5 nF s5 hF hfv hps hsem hlen => ?_⟩
    have nFL : Fl ≠ L := fun e => by rw [e, hL4] at nF; cases nF
    have hL5 := s5 _ _ hL4
    have b5 := b4.trans (butOf s5)
    have hU5 := hU4.same s5
    have lfv := hfv.len
    have lup : (up1 ps).length = ps.length := by simp [up1]
    have eAll : pend (begins tops.length R o) = ps.map fun x => theArr x.1 x.2 := by rw [← hsem, arrAll_map hps]
    refine ⟨Fl, rfl, ⟨_, .of hF⟩, ?_⟩
    refine for_it (walk_list (xs := fv)) (fun i σ H' => But L H5 H' ∧ ∃ (us : List V) (y3 y4 y5 y6 y7 y8 y9 y10 : Option V), σ = [some (.ref x), some (.ref L), some (.ref sa), y3, y4, y5, y6, y7, y8, y9, y10] ∧ H' L = some (.lst us) ∧ TksIn K L H H' us (((begs R).take j).flatMap (tkBeg tops R) ++ (ps.take i).flatMap fun x => tkArr tops (begPlace o) (theArr x.1 x.2)) ∧ (∀ t ∈ ((begs R).take j).flatMap (tkBeg tops R) ++ (ps.take i).flatMap fun x => tkArr tops (begPlace o) (theArr x.1 x.2), GoodTk tops.length t) ∧ us.length ≤ 180000 * j + 9 * i)
      ⟨But.refl _ _, us, y3, y4, y5, y6, y7, y8, y9, y10, rfl, hL5, by simpa using hU5, by simpa using hG4, by omega⟩ (fun i σ H' _ p => .of (p.1 _ _ nFL hF)) (fun i wv σ H6 H6' hi p y => ?_) (fun σ H' p => ?_)
    · obtain ⟨b6, us6, z3, z4, z5, z6, z7, z8, z9, z10, rfl, hL6, hU6, hG6, hl6⟩ := p
      obtain ⟨rfl, ex6⟩ := y
      obtain ⟨⟨op, st⟩, eup, hw5⟩ := A2.at hfv ex6
      rw [up1, List.getElem?_map] at eup
      obtain ⟨⟨p, st'⟩, ep, e2⟩ := Option.map_eq_some_iff.mp eup
      cases e2
      have hAr := hps _ (List.mem_of_getElem? ep)
      have hIA := hAr
      obtain ⟨hAp, kind, hg⟩ := hAr
      dsimp only at hAp kind hg
      have hw6 := (hw5.less (Ms := [L]) fun a ha => .inr (List.mem_cons_of_mem _ ha)).but (List.mem_singleton.mpr rfl) b6 hL5
      obtain ⟨t, tr, bl, wl, pv, bvs, wvs, rfl, h1, h2, ⟨pa, rfl, h3⟩, h4, h5, h6, h7, h8, h9⟩ := hw6
      dsimp only at h1 h2 h3 h4 h5 h6 h7
      have s06 := sameButL s03 nL (b5.trans b6)
      have nbl : bl ≠ L := fun e => h8 (by rw [e]; exact List.mem_singleton.mpr rfl)
      have nwl : wl ≠ L := fun e => h9 (by rw [e]; exact List.mem_singleton.mpr rfl)
      have hsa6 : SqT K H6' sa (nats (begPlace o)) := tsTup (butTL b6 hL5) (tupS s5 hsa4)
      refine ⟨_, _, rfl, h1, rfl, _, _, rfl, _, _, rfl, _, _, rfl, _, _, rfl, _, _, rfl, rfl, ?_⟩
      refine ⟨_, rfl, _, rfl, x, pa, tops, R, p, rfl, hP.same s06, hAp, kind, h3, fun al as H7 nal s7 hal has => ?_⟩
      have nalL : al ≠ L := fun e => by rw [e, hL6] at nal; cases nal
      have hL7 := s7 _ _ hL6
      have hU7 := hU6.same s7
      have las := has.len
      have eask := arrAsk (tops := tops) hIA
      dsimp only at eask
      rw [← eask] at has las
      have hg0 : GoodSt tops.length 1 (theArr p st').st := hg
      obtain ⟨g1', g2', g3', g4', g5', g6'⟩ := hg
      have lask : (askA tops (theArr p st')).length ≤ 9 := by
        rw [eask]
        have hW := hAp.w hRW
        rcases kind with ⟨w, t, e⟩ | ⟨w, ws, b, t, e⟩
        · rw [e]; simp [askP]
        · rw [e] at hW ⊢
          have := hW.2.2.1
          simp only [askP, List.length_append, bnd_len]
          omega
      have gask : ∀ s ∈ askA tops (theArr p st'), s.1.length = tops.length ∧ Wd 8 s.2 ∧ ∀ x ∈ s.1, Wd 8 x := by
        rw [eask]
        exact ask_good hTW (hAp.w hRW)
      refine ⟨al, _, rfl, .of hal, ?_⟩
      refine for_it (walkE (b := false) (xs := as)) (fun m σ H' => But L H7 H' ∧ ∃ (us : List V) (y8 y9 y10 : Option V), σ = [some (.ref x), some (.ref L), some (.ref sa), some (.ref tr), some (.ref pa), some (.int (st'.many : Int)), some (.ref bl), some (.ref wl), y8, y9, y10] ∧ H' L = some (.lst us) ∧ TksIn K L H H' us (((begs R).take j).flatMap (tkBeg tops R) ++ ((ps.take i).flatMap fun x => tkArr tops (begPlace o) (theArr x.1 x.2)) ++ (((askA tops (theArr p st')).zipIdx).take m).map (tkOf (begPlace o) (theArr p st'))) ∧ us.length ≤ 180000 * j + 9 * i + m)
        ⟨But.refl _ _, us6, z8, z9, z10, rfl, hL7, by simpa using hU7, by omega⟩ (fun m σ H' _ p => .of (p.1 _ _ nalL hal)) (fun m zv σ H8 H8' hm p y => ?_) (fun σ H' p => ?_)
      · obtain ⟨b8, us8, y8', y9', y10', rfl, hL8, hU8, hl8⟩ := p
        obtain ⟨T2, x1, x2, rfl, nT2, rfl, e1, e2⟩ := y
        cases e1
        obtain ⟨wd, ew, hx2⟩ := A2.at has e2
        have hwd := gask _ (List.mem_of_getElem? ew)
        have sT2 := sameNew (o := .tup [.int (m : Nat), x2]) nT2
        refine ⟨_, _, rfl, .of upd_same, rfl, _, _, rfl, _, _, rfl, rfl, ?_⟩
        have b9 := b8.trans (butOf sT2)
        have ts9 := butTL b9 hL7
        have ts69 := TS.trans (tsOf s7) ts9
        have hx9 := tsSum ts9 hx2
        have h4' := b9 _ _ nbl (s7 _ _ h4)
        have h6' := b9 _ _ nwl (s7 _ _ h6)
        have h5' := sumsS ts69 h5
        have h7' := sumsS ts69 h7
        have hL9 := sT2 _ _ hL8
        have hU9 := hU8.same sT2
        generalize upd H8 T2 (.tup [.int (m : Nat), x2]) = H9 at *
        refine ⟨_, rfl, x2, wd, rfl, hx9, by have := hwd.1; omega, fun H10 v10 s10 hv10 => ?_⟩
        refine ⟨_, rfl, putUse (E := C8.E0) hv10 (s10 _ _ h4') (sumsS (tsOf s10) h5') g2' ht1 ht3 g3' (by omega) (opp_good hwd) fun H11 v11 s11 hv11 => ?_⟩
        have s911 := Same.trans s10 s11
        refine ⟨_, rfl, .inl ⟨rfl, _, .of (s911 _ _ hL9)⟩, _, rfl, _, rfl, _, rfl, _, rfl, _, rfl, _, rfl, _, rfl, by show 1 ≤ sizeLine; decide, fun Y nY => ?_⟩
        have lwv := h7'.len
        refine ⟨wl, Y, _, _, rfl, rfl, sameNew nY _ _ (s911 _ _ h6'), upd_same, by rw [List.length_singleton]; omega, fun Z nZ => ⟨by show 6 ≤ sizeLine; decide, fun U nU => ?_⟩⟩
        have sY := sameNew (o := .lst [v11]) nY
        have sZ := sameNew (o := .lst (wvs ++ [v11])) nZ
        have sU := sameNew (o := .tup [.ref sa, .ref tr, .ref pa, .int (m : Int), .int (st'.many : Int), .ref Z]) nU
        have sYU := Same.trans sY (Same.trans sZ sU)
        have s9U := Same.trans s911 sYU
        have hLU := s9U _ _ hL9
        have nZL : Z ≠ L := fun e => by
          have := sY _ _ (s911 _ _ hL9)
          rw [e, this] at nZ
          cases nZ
        have hZU := sU _ _ (show upd _ Z (.lst (wvs ++ [v11])) Z = _ from upd_same)
        have hUU : upd (upd (upd H11 Y (.lst [v11])) Z (.lst (wvs ++ [v11]))) U (.tup [.ref sa, .ref tr, .ref pa, .int (m : Int), .int (st'.many : Int), .ref Z]) U = some (.tup [.ref sa, .ref tr, .ref pa, .int (m : Int), .int (st'.many : Int), .ref Z]) := upd_same
        have hwU := (sumsS (tsOf s9U) h7').app (.cons (SumIn.mono sYU hv11) .nil)
        have hUb := hU9.same (Same.trans s911 sY)
        have sZU := Same.trans sZ sU
        have n0Z : H Z = none := Same.free (Same.trans (sameButL (Same.trans s06 s7) nL b9) (Same.trans s911 sY)) nZ
        have b12 := b9.trans (butOf s9U)
        have tsU := TS.trans ts69 (tsOf s9U)
        generalize upd (upd (upd H11 Y (.lst [v11])) Z (.lst (wvs ++ [v11]))) U (.tup [.ref sa, .ref tr, .ref pa, .int (m : Int), .int (st'.many : Int), .ref Z]) = H12 at *
        have ltk := hU8.len
        refine ⟨L, us8, _, rfl, rfl, hLU, by omega, ?_⟩
        have iL1 : L ∈ [L] := List.mem_singleton.mpr rfl
        have hnew : TkA K [L] H12 (.ref U) (tkOf (begPlace o) (theArr p st') (wd, m), Z) := ⟨U, sa, tr, pa, _, rfl, .of hUU, tsTup tsU hsa6, tsTup tsU h2, tsTup tsU h3, hZU, hwU, fun z => nZL (List.mem_singleton.mp z)⟩
        refine ⟨butMut b12, us8 ++ [.ref U], _, _, _, rfl, upd_same, ?_, by rw [List.length_append, List.length_singleton]; omega⟩
        have ez : (askA tops (theArr p st')).zipIdx[m]? = some (wd, m) := by
          rw [List.getElem?_zipIdx, ew]
          simp
        rw [mapTakeA ez, ← List.append_assoc]
        exact hUb.snoc nZ n0Z sZU hLU hnew
      · obtain ⟨b8, us8, y8', y9', y10', rfl, hL8, hU8, hl8⟩ := p
        have eT : (((askA tops (theArr p st')).zipIdx).take as.length).map (tkOf (begPlace o) (theArr p st')) = tkArr tops (begPlace o) (theArr p st') := by
          rw [las, show (askA tops (theArr p st')).length = (askA tops (theArr p st')).zipIdx.length by simp, List.take_length]
          rfl
        rw [eT] at hU8
        have e3 := flatTakeA (f := fun x : Pos' × St' => tkArr tops (begPlace o) (theArr x.1 x.2)) ep
        dsimp only at e3
        refine ⟨b6.trans ((butOf s7).trans b8), us8, _, _, _, _, _, _, _, _, rfl, hL8, ?_, fun t ht => ?_, by omega⟩
        · rw [e3, ← List.append_assoc]
          exact hU8
        · rw [e3, ← List.append_assoc] at ht
          rcases List.mem_append.mp ht with ht | ht
          · exact hG6 t ht
          · exact tkGood ht3 ⟨hg0, lask, gask⟩ t ht
    · obtain ⟨b6, us6, z3, z4, z5, z6, z7, z8, z9, z10, rfl, hL6, hU6, hG6, hl6⟩ := p
      have e4 : (ps.take fv.length).flatMap (fun x => tkArr tops (begPlace o) (theArr x.1 x.2)) = tkBeg tops R o := by
        rw [lfv, lup, List.take_length, tkBeg, eAll, List.flatMap_map]
      rw [e4] at hU6 hG6
      have e5 := flatTakeA (f := tkBeg tops R) eo
      rw [← e5] at hU6 hG6
      exact ⟨b5.trans b6, us6, _, _, _, _, _, _, _, _, _, rfl, hL6, hU6, hG6, by omega⟩
  · obtain ⟨b4, us, y2, y3, y4, y5, y6, y7, y8, y9, y10, rfl, hL4, hU4, hG4, hl4⟩ := p
    rw [lsv, List.take_length] at hU4 hG4
    exact ⟨_, rfl, q L us H' nL (sameButL s03 nL b4) hL4 hU4 hG4 (by omega)⟩

end

end LW

namespace LW
open PySem PySem.Spec PyProof.Rows L2
local macro_rules | `(tactic| walk_at "go1") => `(tactic| first
  | refine ⟨_, rfl, ?_⟩
  | refine ⟨_, _, rfl, rfl, ?_⟩
  | refine ⟨show (0 : Int) < _ from by omega, ?_⟩
  | refine ⟨show CMul _ _ from by first | exact .inl ⟨by omega, by omega⟩ | exact .inr ⟨by omega, by omega⟩, ?_⟩
  | refine ⟨show CDiv _ _ from ⟨by omega, by omega⟩, ?_⟩)
local macro_rules | `(tactic| walk_at "go") => `(tactic| repeat walk_at "go1")

section
variable {P : Program} {w : World} {K : PySem.W.Frag} {mg : Str → Option Value} {base : Heap}

abbrev s__least_and_most : Stmt := topS 52
theorem sc__least_and_most : FnScope ["one", "stretch", "numbers", "least", "most", "number", "low", "high"] ["one", "stretch"] (defScope s__least_and_most) := ⟨rfl, rfl, rfl, by decide +kernel, rfl, by decide +kernel, by decide +kernel⟩

def spLM (K : PySem.W.Frag) : Sp := fun vs H Q _ => ∃ (v : V) (a : Addr) (s : Sm) (st : List Iv), vs = [v, .ref a] ∧ SumIn K H v s ∧ StrIn K H a st ∧ s.1.length = st.length ∧ st.length ≤ 1000 ∧ (∀ n ∈ s.1, Wd 1000 n) ∧ (∀ p ∈ st, Wd 1000 p.1 ∧ Wd 1000 p.2) ∧
  ∀ (r : Addr) (H' : Hp), H r = none → Same H H' → H' r = some (.tup [.int (leastP s st), .int (mostP s st)]) → Q (.ref r) H'
theorem ok__least_and_most {f : Addr} {fd : FuncData} {k : Nat} (F : Fun K "_least_and_most" "_least_and_most" s__least_and_most f fd) (B : Bl mg) : FnOk P w K mg base CX0 (k + 1) f fd ["one", "stretch"] (spLM K) := by
  refine F.ok sc__least_and_most (fun vs H Q E h => ?_) (fun cdv A outer s H vs Q E hr h => ?_)
  · obtain ⟨v, a, s, st, rfl, _⟩ := h
    rfl
  obtain ⟨v, a, ⟨ns, l⟩, st, rfl, ⟨b, t, rfl, h1, h2⟩, ⟨ws, hS, hW⟩, hl, hz, hn, hb, q⟩ := h
  dsimp only at h1 h2 hl hn q
  refine ⟨_, (pss_cons (ps_asg (pv 0) (kT2 (K := K) rfl rfl (pg_name (i := 2) sc__least_and_most.nd rfl (.inl rfl)) (pg_name (i := 3) sc__least_and_most.nd rfl (.inl rfl))))
    (pss_cons (ps_set (i := 4) sc__least_and_most.nd rfl (.inl rfl) (pv 3))
    (pss_cons (ps_for PassesOwn.never rfl (kZ (K := K) rfl true false (by rfl) B.zip (pa_cons (pv 2) (pa_cons (pv 1) pa_nil))) (kT2 (K := K) rfl rfl (pg_name (i := 5) sc__least_and_most.nd rfl (.inl rfl)) (kT2 (K := K) rfl rfl (pg_name (i := 6) sc__least_and_most.nd rfl (.inl rfl)) (pg_name (i := 7) sc__least_and_most.nd rfl (.inl rfl))))
      (pss_one (ps_if (pt_cmpR op_gt (pv 5) pe_int (nomark _))
        (pss_cons (ps_aug (i := 3) sc__least_and_most.nd rfl (.inl rfl) (pe_op op_mulW (pv 5) (pv 6)) ip_add)
        (pss_one (ps_aug (i := 4) sc__least_and_most.nd rfl (.inl rfl) (pe_op op_mulW (pv 5) (pv 7)) ip_add)))
        (pss_cons (ps_aug (i := 3) sc__least_and_most.nd rfl (.inl rfl) (pe_op op_mulW (pv 5) (pv 7)) ip_add)
        (pss_one (ps_aug (i := 4) sc__least_and_most.nd rfl (.inl rfl) (pe_op op_mulW (pv 5) (pv 6)) ip_add))))))
    (pss_one (ps_ret (pe_tup (pa_cons (pv 3) (pa_cons (pv 4) pa_nil)))))))), ?_⟩
  have lw := hW.len
  refine ⟨_, rfl, _, _, rfl, h1, rfl, _, _, rfl, _, _, rfl, rfl, ?_⟩
  refine ⟨_, rfl, ?_⟩
  refine ⟨_, rfl, _, rfl, _, _, _, _, rfl, h2, hS, ?_⟩
  refine for_it (walkZ (xs := ns.map V.int) (ys := ws) (n := ns.length) (by simp; omega)) (fun i σ H' => Same H H' ∧ ∃ (y5 y6 y7 : Option V), σ = [some (.ref b), some (.ref a), some (.ref t), some (.int (leastP (ns.take i, l) (st.take i))), some (.int (mostP (ns.take i, l) (st.take i))), y5, y6, y7])
    ⟨Same.refl _, none, none, none, by simp [leastP, mostP, lowP, highP]; rfl⟩ (fun i σ H' _ p => ⟨tupS p.1 h2, Same.seq p.1 hS⟩) (fun i x σ H1 H2 hi p y => ?_) (fun σ H' p => ?_)
  · obtain ⟨sm, y5, y6, y7, rfl⟩ := p
    obtain ⟨T, x1, x2, rfl, nT, rfl, e1, e2⟩ := y
    have i2 : i < st.length := by omega
    have f1 := mapAt e1 hi
    subst f1
    obtain ⟨p, ep, ⟨tp, rfl, hp⟩⟩ := A2.at hW e2
    have hbp := hb p (List.mem_of_getElem? ep)
    have sm2 := Same.trans sm (sameNew (o := .tup [.int ns[i], .ref tp]) nT)
    refine ⟨_, _, rfl, .of upd_same, rfl, _, _, rfl, _, _, rfl, ⟨_, _, rfl, tupS sm2 hp, rfl, _, _, rfl, _, _, rfl, rfl, rfl, ?_⟩⟩
    have tk := lowP_take (a := ns) (b := st) (i := i) (List.getElem?_eq_getElem hi) ep
    have w1 := hn _ (List.getElem_mem hi)
    refine ⟨_, rfl, _, _, rfl, rfl, _, rfl, ?_⟩
    refine yesDec (fun c => ?_) (fun c => ?_)
    · rw [if_pos c, if_pos c] at tk
      refine ⟨_, rfl, _, rfl, _, rfl, _, _, rfl, rfl, Wd.mulOk w1 hbp.1 (by decide) (by decide) (by decide), _, _, rfl, rfl, ?_⟩
      refine ⟨_, rfl, _, rfl, _, rfl, _, _, rfl, rfl, Wd.mulOk w1 hbp.2 (by decide) (by decide) (by decide), _, _, rfl, rfl, ?_⟩
      refine ⟨sm2, some (.int ns[i]), some (.int p.1), some (.int p.2), ?_⟩
      simp only [leastP, mostP, tk.1, tk.2, ← Int.add_assoc]
      rfl
    · rw [if_neg c, if_neg c] at tk
      refine ⟨_, rfl, _, rfl, _, rfl, _, _, rfl, rfl, Wd.mulOk w1 hbp.2 (by decide) (by decide) (by decide), _, _, rfl, rfl, ?_⟩
      refine ⟨_, rfl, _, rfl, _, rfl, _, _, rfl, rfl, Wd.mulOk w1 hbp.1 (by decide) (by decide) (by decide), _, _, rfl, rfl, ?_⟩
      refine ⟨sm2, some (.int ns[i]), some (.int p.1), some (.int p.2), ?_⟩
      simp only [leastP, mostP, tk.1, tk.2, ← Int.add_assoc]
      rfl
  · obtain ⟨sm, y5, y6, y7, rfl⟩ := p
    refine ⟨_, rfl, _, rfl, by show 2 ≤ sizeLine; decide, fun R nR => ?_⟩
    have e1 : ns.take ns.length = ns := List.take_length
    have e2 : st.take ns.length = st := by rw [hl]; exact List.take_length
    rw [e1, e2]
    exact q R _ (Same.free sm nR) (Same.trans sm (sameNew nR)) upd_same
abbrev s__cut : Stmt := topS 51
theorem sc__cut : FnScope ["stretch", "box", "at", "low", "high", "lower", "upper"] ["stretch", "box", "at"] (defScope s__cut) := ⟨rfl, rfl, rfl, by decide +kernel, rfl, by decide +kernel, by decide +kernel⟩

def spCut (K : PySem.W.Frag) : Sp := fun vs H Q _ => ∃ (a : Addr) (ws : List V) (st : List Iv) (n c : Int) (p : Iv), vs = [.ref a, .int n, .int c] ∧ SqL K H a ws ∧ A2 (PrI K H) ws st ∧ 0 ≤ n ∧ st[n.toNat]? = some p ∧ st.length ≤ 1000 ∧
  ∀ (r l u : Addr) (ws1 ws2 : List V) (H' : Hp), H r = none → H l = none → H u = none → Same H H' → H' r = some (.tup [.ref l, .ref u]) → H' l = some (.lst ws1) → A2 (PrI K H') ws1 (below st n.toNat p c) → H' u = some (.lst ws2) → A2 (PrI K H') ws2 (above st n.toNat p c) → Q (.ref r) H'
theorem ok__cut {f : Addr} {fd : FuncData} {k : Nat} (F : Fun K "_cut" "_cut" s__cut f fd) (B : Bl mg) : FnOk P w K mg base CX0 (k + 1) f fd ["stretch", "box", "at"] (spCut K) := by
  refine F.ok sc__cut (fun vs H Q E h => ?_) (fun cdv A outer s H vs Q E hr h => ?_)
  · obtain ⟨a, ws, st, n, c, p, rfl, _⟩ := h
    rfl
  obtain ⟨a, ws, st, n, c, p, rfl, hS, hW, h0, ep, hz, q⟩ := h
  refine ⟨_, (pss_cons (ps_asg (pe_ix (kIxL (K := K) rfl) (pv 0) (pv 1) (fun _ _ => rfl)) (kT2 (K := K) rfl rfl (pg_name (i := 3) sc__cut.nd rfl (.inl rfl)) (pg_name (i := 4) sc__cut.nd rfl (.inl rfl))))
    (pss_cons (ps_par (i := 5) (j := 6) rfl sc__cut.nd rfl rfl (by decide) rfl rfl (pa_cons (pe_callTy (kList (K := K) rfl) (by rfl) B.list (by decide +kernel) (pa_cons (pv 0) pa_nil)) (pa_cons (pe_callTy (kList (K := K) rfl) (by rfl) B.list (by decide +kernel) (pa_cons (pv 0) pa_nil)) pa_nil)) (by rfl))
    (pss_cons (ps_asg (pe_tup (pa_cons (pv 3) (pa_cons (pv 2) pa_nil))) (pg_sub (pv 5) (pv 1) set_list))
    (pss_cons (ps_asg (pe_tup (pa_cons (pe_op op_add (pv 2) pe_int) (pa_cons (pv 4) pa_nil))) (pg_sub (pv 6) (pv 1) set_list))
    (pss_one (ps_ret (pe_tup (pa_cons (pv 5) (pa_cons (pv 6) pa_nil))))))))), ?_⟩
  obtain ⟨j, rfl⟩ : ∃ j : Nat, n = (j : Int) := ⟨n.toNat, by omega⟩
  rw [Int.toNat_natCast] at ep q
  have lw := hW.len
  have hj := (List.getElem?_eq_some_iff.mp ep).1
  obtain ⟨w0, ew, ⟨tp, rfl, hp⟩⟩ := A2.atR hW ep
  refine ⟨_, rfl, _, rfl, _, _, _, _, rfl, rfl, hS, atI_nat ew, ?_⟩
  refine ⟨_, _, rfl, hp, rfl, _, _, rfl, _, _, rfl, rfl, ?_⟩
  refine ⟨_, rfl, a, ws, rfl, .inl hS, fun l nl => ?_⟩
  have s1 := sameNew (o := .lst ws) nl
  refine ⟨_, rfl, a, ws, rfl, .inl (Same.seq s1 hS), fun u nu => ?_⟩
  have s2 := Same.trans s1 (sameNew (o := .lst ws) nu)
  have nul : u ≠ l := fun e => by rw [e, upd_same] at nu; cases nu
  refine ⟨_, _, rfl, ?_⟩
  have hu : ∀ {o : HO}, upd (upd H l o) u (.lst ws) l = some o := by
    intro o
    rw [upd_ne (Ne.symm nul), upd_same]
  -- lower[box] = (low, at)
  refine ⟨_, rfl, _, rfl, by show 2 ≤ sizeLine; decide, fun T nT => ?_⟩
  have nTl : T ≠ l := fun e => by rw [e, upd_ne (Ne.symm nul), upd_same] at nT; cases nT
  have nTu : T ≠ u := fun e => by rw [e, upd_same] at nT; cases nT
  refine ⟨_, rfl, _, rfl, l, ws, (j : Int), j, rfl, rfl, by rw [upd_ne (Ne.symm nTl)]; exact hu, ixN_nat (by omega), ?_⟩
  have s4 : Same H (upd (upd (upd (upd H l (.lst ws)) u (.lst ws)) T (.tup [.int p.1, .int c])) l (.lst (ws.set j (.ref T)))) := sameMut (Same.trans s2 (sameNew nT)) nl
  have eT : upd (upd (upd (upd H l (.lst ws)) u (.lst ws)) T (.tup [.int p.1, .int c])) l (.lst (ws.set j (.ref T))) T = some (.tup [.int p.1, .int c]) := by rw [upd_ne nTl, upd_same]
  have el : upd (upd (upd (upd H l (.lst ws)) u (.lst ws)) T (.tup [.int p.1, .int c])) l (.lst (ws.set j (.ref T))) l = some (.lst (ws.set j (.ref T))) := upd_same
  have eu : upd (upd (upd (upd H l (.lst ws)) u (.lst ws)) T (.tup [.int p.1, .int c])) l (.lst (ws.set j (.ref T))) u = some (.lst ws) := by rw [upd_ne nul, upd_ne (Ne.symm nTu), upd_same]
  have nu0 : H u = none := Same.free s1 nu
  generalize upd (upd (upd (upd H l (.lst ws)) u (.lst ws)) T (.tup [.int p.1, .int c])) l (.lst (ws.set j (.ref T))) = H4 at *
  clear nT nu s1 s2 hu nTu nTl
  -- upper[box] = (at + 1, high)
  refine ⟨_, rfl, _, _, rfl, rfl, _, rfl, by show 2 ≤ sizeLine; decide, fun T2 nT2 => ?_⟩
  have nT2u : T2 ≠ u := fun e => by rw [e, eu] at nT2; cases nT2
  have nT2l : T2 ≠ l := fun e => by rw [e, el] at nT2; cases nT2
  have nT2T : T2 ≠ T := fun e => by rw [e, eT] at nT2; cases nT2
  refine ⟨_, rfl, _, rfl, u, ws, (j : Int), j, rfl, rfl, by rw [upd_ne (Ne.symm nT2u)]; exact eu, ixN_nat (by omega), ?_⟩
  have s5 : Same H (upd (upd H4 T2 (.tup [.int (c + 1), .int p.2])) u (.lst (ws.set j (.ref T2)))) := sameMut (Same.trans s4 (sameNew nT2)) nu0
  refine ⟨_, rfl, _, rfl, by show 2 ≤ sizeLine; decide, fun R nR => ?_⟩
  have s6 := Same.trans s5 (sameNew (o := .tup [.ref l, .ref u]) nR)
  have nTu : T ≠ u := fun e => by rw [e, eu] at eT; cases eT
  have sR := sameNew (o := .tup [.ref l, .ref u]) nR
  refine q R l u _ _ _ (Same.free s5 nR) nl nu0 s6 upd_same (sR _ _ (by rw [upd_ne (Ne.symm nul), upd_ne (Ne.symm nT2l)]; exact el)) ?_ (sR _ _ upd_same) ?_
  · rw [below, ← setAt hj]
    exact (priTS (tsOf s6) hW).set ⟨T, rfl, .of (sR _ _ (by rw [upd_ne nTu, upd_ne (Ne.symm nT2T)]; exact eT))⟩
  · rw [above, ← setAt hj]
    exact (priTS (tsOf s6) hW).set ⟨T2, rfl, .of (sR _ _ (by rw [upd_ne nT2u, upd_same]))⟩

end

end LW

namespace LW
open PySem PySem.Spec PyProof.Rows L2
local macro_rules | `(tactic| walk_at "go1") => `(tactic| first
  | refine ⟨_, rfl, ?_⟩
  | refine ⟨_, _, rfl, rfl, ?_⟩
  | refine ⟨show (0 : Int) < _ from by omega, ?_⟩
  | refine ⟨show CMul _ _ from by first | exact .inl ⟨by omega, by omega⟩ | exact .inr ⟨by omega, by omega⟩, ?_⟩
  | refine ⟨show CDiv _ _ from ⟨by omega, by omega⟩, ?_⟩)
local macro_rules | `(tactic| walk_at "go") => `(tactic| repeat walk_at "go1")

section
variable {P : Program} {w : World} {K : PySem.W.Frag} {mg : Str → Option Value} {base : Heap}

/-- a cut that may be made; an end that is well -/
def cutOk (st : List Iv) : Tr → Bool
  | .cut n c _ _ => decide (0 ≤ n) && match st[n.toNat]? with
    | some p => decide (p.1 ≤ c) && decide (c < p.2)
    | none => false
  | .sum _ => false
def endOk (ss : List Sm) (st : List Iv) : Tr → Bool
  | .sum n => decide (0 ≤ n) && match ss[n.toNat]? with
    | some s => decide (0 < leastP s st)
    | none => false
  | .cut _ _ _ _ => false

end

end LW

namespace LW
open PySem PySem.Spec PyProof.Rows L2
local macro_rules | `(tactic| walk_at "go1") => `(tactic| first
  | refine ⟨_, rfl, ?_⟩
  | refine ⟨_, _, rfl, rfl, ?_⟩
  | refine ⟨show (0 : Int) < _ from by omega, ?_⟩
  | refine ⟨show CMul _ _ from by first | exact .inl ⟨by omega, by omega⟩ | exact .inr ⟨by omega, by omega⟩, ?_⟩
  | refine ⟨show CDiv _ _ from ⟨by omega, by omega⟩, ?_⟩)
local macro_rules | `(tactic| walk_at "go") => `(tactic| repeat walk_at "go1")

section
variable {P : Program} {w : World} {K : PySem.W.Frag} {mg : Str → Option Value} {base : Heap}

def Tr.nodes : Tr → Nat
  | .sum _ => 1
  | .cut _ _ a b => a.nodes + b.nodes + 1
theorem Tr.deep_pos : ∀ t : Tr, 1 ≤ t.deep
  | .sum _ => Nat.le_refl _
  | .cut _ _ _ _ => Nat.le_add_left ..
/-- stretches as they are cut up -/
def StrG (n : Nat) (st : List Iv) : Prop := st.length = n ∧ ∀ p ∈ st, -1000 ≤ p.1 ∧ p.1 ≤ p.2 ∧ p.2 ≤ 1000
theorem strG_below {n : Nat} {st : List Iv} {j : Nat} {p : Iv} {c : Int} (h : StrG n st) (e : st[j]? = some p) (h1 : p.1 ≤ c) (h2 : c < p.2) : StrG n (below st j p c) ∧ StrG n (above st j p c) := by
  have hj := (List.getElem?_eq_some_iff.mp e).1
  have hp := h.2 p (List.mem_of_getElem? e)
  have key : ∀ r : Iv, -1000 ≤ r.1 ∧ r.1 ≤ r.2 ∧ r.2 ≤ 1000 → StrG n (st.take j ++ [r] ++ st.drop (j + 1)) := fun r hr => by
    refine ⟨by have := h.1; simp; omega, fun q hq => ?_⟩
    rcases List.mem_append.mp hq with hq | hq
    · rcases List.mem_append.mp hq with hq | hq
      · exact h.2 q (List.mem_of_mem_take hq)
      · rw [List.mem_singleton.mp hq]
        exact hr
    · exact h.2 q (List.mem_of_mem_drop hq)
  exact ⟨key _ (by dsimp only; omega), key _ (by dsimp only; omega)⟩
theorem wdInt {i : Int} (h1 : -1000 ≤ i) (h2 : i ≤ 1000) : Wd 1000 i := Wd.mono (n := 10) (by show i.natAbs < 2 ^ 10; omega) (by omega)
theorem strG_wd {n : Nat} {st : List Iv} (h : StrG n st) : ∀ p ∈ st, Wd 1000 p.1 ∧ Wd 1000 p.2 := fun p hp => by
  have := h.2 p hp
  exact ⟨wdInt (by omega) (by omega), wdInt (by omega) (by omega)⟩
theorem isT_cut {ss : List Sm} {st : List Iv} {n c : Int} {a b : Tr} {p : Iv} (e : st[n.toNat]? = some p) : isT ss st (.cut n c a b) = (cutOk st (.cut n c a b) && (isT ss (below st n.toNat p c) a && isT ss (above st n.toNat p c) b)) := by
  simp only [isT, cutOk, e, Bool.and_assoc]
theorem isT_no {ss : List Sm} {st : List Iv} {t : Tr} (h : cutOk st t = false) (hp : ∀ p ∈ st, p.1 ≤ p.2) : isT ss st t = endOk ss st t := by
  cases t with
  | sum n =>
    simp only [isT, endOk]
    cases e : ss[n.toNat]? with
    | none => rfl
    | some s => simp only [leastP_least hp]
  | cut n c a b =>
    simp only [isT, endOk, cutOk] at h ⊢
    cases e : st[n.toNat]? with
    | none => simp
    | some p =>
      rw [e] at h
      simp only [Bool.and_assoc] at h ⊢
      cases h0 : decide (0 ≤ n) <;> cases h1 : decide (p.1 ≤ c) <;> cases h2 : decide (c < p.2) <;> simp_all
/-- what is still to be looked at: a stretch and a tree -/
def PairT (K : PySem.W.Frag) (L : Addr) (n : Nat) (H : Hp) (v : V) (p : List Iv × Tr) : Prop := ∃ (pa a : Addr) (tv : V), v = .ref pa ∧ SqT K H pa [.ref a, tv] ∧ a ≠ L ∧ StrIn K H a p.1 ∧ TrIn K H tv p.2 ∧ StrG n p.1
theorem PairT.same {L : Addr} {n : Nat} {H H' : Hp} {v : V} {p : List Iv × Tr} (e : Same H H') (h : PairT K L n H v p) : PairT K L n H' v p := by
  obtain ⟨pa, a, tv, e0, h1, h2, h3, h4, h5⟩ := h
  exact ⟨pa, a, tv, e0, tupS e h1, h2, h3.same e, trTS (tsOf e) h4, h5⟩
theorem PairT.mut {L : Addr} {n : Nat} {H : Hp} {v : V} {p : List Iv × Tr} {xs ys : List V} (e : H L = some (.lst xs)) (h : PairT K L n H v p) : PairT K L n (upd H L (.lst ys)) v p := by
  obtain ⟨pa, a, tv, e0, h1, h2, ⟨ws, h3, h6⟩, h4, h5⟩ := h
  have t : TS H (upd H L (.lst ys)) := tsLst e
  exact ⟨pa, a, tv, e0, tsTup t h1, h2, ⟨ws, seqNe h3 h2, priTS t h6⟩, trTS t h4, h5⟩
theorem pairsSame {L : Addr} {n : Nat} {H H' : Hp} {vs : List V} {ps : List (List Iv × Tr)} (e : Same H H') (h : A2 (PairT K L n H) vs ps) : A2 (PairT K L n H') vs ps := A2.map (B' := ps) (fun _ _ _ r => r.same e) (fun _ m => m) h
theorem pairsMut {L : Addr} {n : Nat} {H : Hp} {vs xs ys : List V} {ps : List (List Iv × Tr)} (e : H L = some (.lst xs)) (h : A2 (PairT K L n H) vs ps) : A2 (PairT K L n (upd H L (.lst ys))) vs ps := A2.map (B' := ps) (fun _ _ _ r => r.mut e) (fun _ m => m) h

end

end LW

namespace LW
open PySem PySem.Spec PyProof.Rows L2
local macro_rules | `(tactic| walk_at "go1") => `(tactic| first
  | refine ⟨_, rfl, ?_⟩
  | refine ⟨_, _, rfl, rfl, ?_⟩
  | refine ⟨show (0 : Int) < _ from by omega, ?_⟩
  | refine ⟨show CMul _ _ from by first | exact .inl ⟨by omega, by omega⟩ | exact .inr ⟨by omega, by omega⟩, ?_⟩
  | refine ⟨show CDiv _ _ from ⟨by omega, by omega⟩, ?_⟩)
local macro_rules | `(tactic| walk_at "go") => `(tactic| repeat walk_at "go1")

section
variable {P : Program} {w : World} {K : PySem.W.Frag} {mg : Str → Option Value} {base : Heap}

/-- a number and a sum, as a tuple in the heap -/
def NsIn (K : PySem.W.Frag) (H : Hp) (v : V) (p : Int × Sm) : Prop := ∃ t w, v = .ref t ∧ SqT K H t [.int p.1, w] ∧ SumIn K H w p.2
theorem nsTS {H H' : Hp} {vs : List V} {ps : List (Int × Sm)} (e : TS H H') (h : A2 (NsIn K H) vs ps) : A2 (NsIn K H') vs ps :=
  A2.map (B' := ps) (fun _ _ _ ⟨t, w, e0, h1, h2⟩ => ⟨t, w, e0, tsTup e h1, tsSum e h2⟩) (fun _ m => m) h
theorem low_high : ∀ {a : List Int} {st : List Iv}, (∀ (j : Nat) n p, a[j]? = some n → st[j]? = some p → n = 0 ∨ ¬ p.1 < p.2) → (∀ p ∈ st, p.1 ≤ p.2) → lowP a st = highP a st
  | [], _, _, _ => by simp [lowP, highP]
  | _ :: _, [], _, _ => by simp [lowP, highP]
  | n :: ns, p :: ps, h, hp => by
    have ih := low_high (a := ns) (st := ps) (fun j n p e1 e2 => h (j + 1) n p (by simpa using e1) (by simpa using e2)) fun q hq => hp q (List.mem_cons_of_mem _ hq)
    have h0 := h 0 n p rfl rfl
    have h1 := hp p (List.mem_cons_self ..)
    simp only [lowP, highP, ih]
    rcases h0 with e | e
    · subst e
      simp
    · have : p.1 = p.2 := by omega
      rw [this]
/-- a place where a stretch may be cut -/
def CutAt (st : List Iv) (H : Hp) (v : V) : Prop := ∃ (t : Addr) (j : Nat) (c : Int) (p : Iv), v = .ref t ∧ H t = some (.tup [.int (j : Int), .int c]) ∧ st[j]? = some p ∧ p.1 ≤ c ∧ c < p.2
theorem CutAt.same {st : List Iv} {H H' : Hp} {v : V} (e : Same H H') (h : CutAt st H v) : CutAt st H' v := by
  obtain ⟨t, j, c, p, e0, h1, h2⟩ := h
  exact ⟨t, j, c, p, e0, e _ _ h1, h2⟩
abbrev s__where_to_cut : Stmt := topS 50
theorem sc__where_to_cut : FnScope ["stretch", "rest", "widest", "found", "_", "one", "least", "box", "number", "low", "high", "wide", "left"] ["stretch", "rest"] (defScope s__where_to_cut) := ⟨rfl, rfl, rfl, by decide +kernel, rfl, by decide +kernel, by decide +kernel⟩

def spWhere (K : PySem.W.Frag) : Sp := fun vs H Q _ => ∃ (a r : Addr) (ws rs : List V) (st : List Iv) (ps : List (Int × Sm)), vs = [.ref a, .ref r] ∧ SqL K H a ws ∧ A2 (PrI K H) ws st ∧ StrG st.length st ∧ st.length ≤ 1000 ∧ SqL K H r rs ∧ A2 (NsIn K H) rs ps ∧ 0 < ps.length ∧ (∀ p ∈ ps, p.2.1.length = st.length ∧ ∀ n ∈ p.2.1, Wd 1000 n) ∧ (∀ p ∈ ps, leastP p.2 st ≤ 0 ∧ 0 < mostP p.2 st) ∧
  ∀ (H' : Hp) (v : V), Same H H' → CutAt st H' v → Q v H'
theorem ok__where_to_cut {f : Addr} {fd : FuncData} {k : Nat} (F : Fun K "_where_to_cut" "_where_to_cut" s__where_to_cut f fd) (B : Bl mg) (nabs : mg "abs" = none) (c__least_and_most : C8.Cal P w K mg base k "_least_and_most" (spLM K) []) : FnOk P w K mg base CX0 (k + 1) f fd ["stretch", "rest"] (spWhere K) := by
  refine F.ok sc__where_to_cut (fun vs H Q E h => ?_) (fun cdv A outer s H vs Q E hr h => ?_)
  · obtain ⟨a, r, ws, rs, st, ps, rfl, _⟩ := h
    rfl
  obtain ⟨a, r, ws, rs, st, ps, rfl, hS, hW, hG, hz, hR, hP, h0, hs, hm, q⟩ := h
  refine ⟨_, (pss_cons (ps_asg (pe_tup (pa_cons pe_int (pa_cons pe_non pa_nil))) (kT2 (K := K) rfl rfl (pg_name (i := 2) sc__where_to_cut.nd rfl (.inl rfl)) (pg_name (i := 3) sc__where_to_cut.nd rfl (.inl rfl))))
    (pss_cons (ps_for PassesOwn.never rfl (kList_ (K := K) rfl (pv 1)) (kT2 (K := K) rfl rfl (pg_name (i := 4) sc__where_to_cut.nd rfl (.inl rfl)) (pg_name (i := 5) sc__where_to_cut.nd rfl (.inl rfl)))
      (pss_cons (ps_asg (C8.pe_c c__least_and_most hr (Nat.le_refl _) (by rfl) (pa_cons (pv 5) (pa_cons (pv 0) pa_nil))) (kT2 (K := K) rfl rfl (pg_name (i := 6) sc__where_to_cut.nd rfl (.inl rfl)) (pg_name (i := 4) sc__where_to_cut.nd rfl (.inl rfl))))
      (pss_one (ps_for PassesOwn.never rfl (kE (K := K) rfl true (by rfl) B.enumerate (pa_cons (pe_ix (kIxT (K := K) rfl) (pv 5) pe_int (fun _ _ => rfl)) pa_nil)) (kT2 (K := K) rfl rfl (pg_name (i := 7) sc__where_to_cut.nd rfl (.inl rfl)) (pg_name (i := 8) sc__where_to_cut.nd rfl (.inl rfl)))
        (pss_cons (ps_if (pt_cmpR op_eq (pv 8) pe_int (nomark _))
          (pss_one ps_continue)
          pss_nil)
        (pss_cons (ps_asg (pe_ix (kIxL (K := K) rfl) (pv 0) (pv 7) (fun _ _ => rfl)) (kT2 (K := K) rfl rfl (pg_name (i := 9) sc__where_to_cut.nd rfl (.inl rfl)) (pg_name (i := 10) sc__where_to_cut.nd rfl (.inl rfl))))
        (pss_cons (ps_set (i := 11) sc__where_to_cut.nd rfl (.inl rfl) (pe_op op_add (pe_op op_sub (pv 10) (pv 9)) pe_int))
        (pss_cons (ps_set (i := 12) sc__where_to_cut.nd rfl (.inl rfl) (pe_op op_add (pe_op op_fdivW (pe_un un_neg (pv 6)) (pe_callB call_abs (by rfl) nabs (by decide +kernel) (pa_cons (pv 8) pa_nil))) pe_int))
        (pss_cons (ps_if (pt_cmpR op_le (pe_op op_mul pe_int (pv 12)) (pv 11) (nomark _))
          (pss_one (ps_ret (pe_tup (pa_cons (pv 7) (pa_cons (pe_ifExp (pt_cmpR op_gt (pv 8) pe_int (nomark _)) (pe_op op_sub (pe_op op_add (pv 9) (pv 12)) pe_int) (pe_op op_sub (pv 10) (pv 12))) pa_nil)))))
          pss_nil)
        (pss_one (ps_if (pt_cmpR op_gt (pv 11) (pv 2) (nomark _))
          (pss_one (ps_par (i := 2) (j := 3) rfl sc__where_to_cut.nd rfl rfl (by decide) rfl rfl (pa_cons (pv 11) (pa_cons (pe_tup (pa_cons (pv 7) (pa_cons (pe_op op_fdiv (pe_op op_add (pv 9) (pv 10)) pe_int) pa_nil))) pa_nil)) (by rfl)))
          pss_nil)))))))))))
    (pss_one (ps_ret (pv 3))))), ?_⟩
  have lw := hW.len
  have lr := hP.len
  have hlo : ∀ p ∈ st, p.1 ≤ p.2 := fun p hp => (hG.2 p hp).2.1
  refine ⟨by show 2 ≤ sizeLine; decide, fun T0 nT0 => ?_⟩
  refine ⟨_, _, rfl, .of upd_same, rfl, _, _, rfl, _, _, rfl, rfl, ?_⟩
  refine ⟨_, rfl, r, rfl, ⟨_, Same.seq (sameNew nT0) hR⟩, ?_⟩
  refine for_it (walk_list (xs := rs)) (fun i σ H' => Same H H' ∧ ∃ (wd : Int) (fv : V) (y4 y5 y6 y7 y8 y9 y10 y11 y12 : Option V), σ = [some (.ref a), some (.ref r), some (.int wd), some fv, y4, y5, y6, y7, y8, y9, y10, y11, y12] ∧ 1 ≤ wd ∧ (CutAt st H' fv ∨ (i = 0 ∧ wd = 1)))
    ⟨sameNew nT0, 1, .non, none, none, none, none, none, none, none, none, none, rfl, by omega, .inr ⟨rfl, rfl⟩⟩ (fun i σ H' _ p => Same.seq p.1 hR) (fun i x σ H1 H2 hi p y => ?_) (fun σ H' p => ?_)
  · obtain ⟨sm, wd, fv, y4, y5, y6, y7, y8, y9, y10, y11, y12, rfl, w1, hf⟩ := p
    obtain ⟨rfl, ex⟩ := y
    obtain ⟨⟨k0, s0⟩, es, tt, wv, rfl, ht, hw0⟩ := A2.at hP ex
    have ms := List.mem_of_getElem? es
    obtain ⟨hs0, hs1⟩ := hs _ ms
    obtain ⟨hm0, hm1⟩ := hm _ ms
    dsimp only at hs0 hs1 hm0 hm1 hw0 ht
    refine ⟨_, _, rfl, tupS sm ht, rfl, _, _, rfl, _, _, rfl, rfl, ?_⟩
    refine ⟨_, rfl, _, rfl, wv, a, s0, st, rfl, SumIn.mono sm hw0, ⟨ws, Same.seq sm hS, priTS (tsOf sm) hW⟩, hs0, hz, hs1, strG_wd hG, fun R H3 nR s3 eR => ?_⟩
    refine ⟨_, _, rfl, .of eR, rfl, _, _, rfl, _, _, rfl, rfl, ?_⟩
    have sm3 := Same.trans sm s3
    obtain ⟨ob, ot, rfl, o1, o2⟩ := SumIn.mono sm3 hw0
    have hf3 : CutAt st H3 fv ∨ (i = 0 ∧ wd = 1) := hf.imp (fun h => h.same s3) fun h => h
    refine ⟨_, rfl, _, _, _, _, rfl, rfl, o1, atI_nat (j := 0) rfl, _, _, rfl, o2, ?_⟩
    refine for_it (walkE (xs := s0.1.map V.int)) (fun j σ H' => Same H3 H' ∧ ∃ (wd : Int) (fv : V) (y7 y8 y9 y10 y11 y12 : Option V), σ = [some (.ref a), some (.ref r), some (.int wd), some fv, some (.int (mostP s0 st)), some (.ref ob), some (.int (leastP s0 st)), y7, y8, y9, y10, y11, y12] ∧ 1 ≤ wd ∧
        (CutAt st H' fv ∨ (wd = 1 ∧ ∀ (m : Nat) n p, m < j → s0.1[m]? = some n → st[m]? = some p → n = 0 ∨ ¬ p.1 < p.2)))
      ⟨Same.refl _, wd, fv, y7, y8, y9, y10, y11, y12, rfl, w1, hf3.imp (fun h => h) fun h => ⟨h.2, fun m n p hm => absurd hm (Nat.not_lt_zero _)⟩⟩ (fun j σ H' _ p => tupS p.1 o2) (fun j x σ H4 H5 hj p y => ?_) (fun σ H' p => ?_)
    · obtain ⟨sm4, wd, fv, y7, y8, y9, y10, y11, y12, rfl, w2, hf4⟩ := p
      obtain ⟨T, x1, x2, rfl, nT, rfl, e1, e2⟩ := y
      cases e1
      have hj1 : j < s0.1.length := by simpa using hj
      have f2 := mapAt e2 hj1
      subst f2
      have hj2 : j < st.length := by omega
      have ej : s0.1[j]? = some s0.1[j] := List.getElem?_eq_getElem hj1
      have ep : st[j]? = some st[j] := List.getElem?_eq_getElem hj2
      have sT := sameNew (o := .tup [.int (j : Nat), .int s0.1[j]]) nT
      have sm5 := Same.trans sm4 sT
      have hf5 := hf4.imp (fun h => h.same sT) fun h => h
      refine ⟨_, _, rfl, .of upd_same, rfl, _, _, rfl, _, _, rfl, rfl, ?_⟩
      refine ⟨_, rfl, rfl, _, rfl, ?_⟩
      have more : (wd' : Int) → (fv' : V) → (H' : Hp) → 1 ≤ wd' → (CutAt st H' fv' ∨ (fv' = fv ∧ wd' = wd ∧ H' = upd H4 T (.tup [.int (j : Nat), .int s0.1[j]]) ∧ (s0.1[j] = 0 ∨ ¬ st[j].1 < st[j].2))) →
          (CutAt st H' fv' ∨ (wd' = 1 ∧ ∀ (m : Nat) n p, m < j + 1 → s0.1[m]? = some n → st[m]? = some p → n = 0 ∨ ¬ p.1 < p.2)) := fun wd' fv' H' h1 h => by
        rcases h with h | ⟨rfl, rfl, rfl, h⟩
        · exact .inl h
        · rcases hf5 with g | ⟨g1, g2⟩
          · exact .inl g
          · refine .inr ⟨g1, fun m n p hm en epp => ?_⟩
            by_cases em : m = j
            · subst em
              rw [ej] at en
              rw [ep] at epp
              cases en
              cases epp
              exact h
            · exact g2 m n p (by omega) en epp
      refine ite2 (fun e => ?_) (fun e => ?_)
      · have e0 : s0.1[j] = 0 := by
          have e' := of_decide_eq_true e
          injection e'
        exact ⟨sm5, wd, fv, _, _, _, _, _, _, rfl, w2, more _ _ _ w2 (.inr ⟨rfl, rfl, rfl, .inl e0⟩)⟩
      have n0 : s0.1[j] ≠ 0 := fun z => e (decide_eq_true (by rw [z]))
      obtain ⟨w0, ew, ⟨tp, rfl, hp⟩⟩ := A2.atR hW ep
      have s05 := Same.trans sm3 sm5
      refine ⟨_, rfl, _, rfl, _, _, _, _, rfl, rfl, Same.seq s05 hS, atI_nat ew, ?_⟩
      refine ⟨_, _, rfl, tupS s05 hp, rfl, _, _, rfl, _, _, rfl, rfl, ?_⟩
      have hl1 := hlo _ (List.getElem_mem hj2)
      refine ⟨_, rfl, _, rfl, _, _, rfl, rfl, _, _, rfl, rfl, ?_⟩
      have wn := hs1 _ (List.getElem_mem hj1)
      have apos : 0 < (if s0.1[j] < 0 then -s0.1[j] else s0.1[j]) := by split <;> omega
      have awd : (if s0.1[j] < 0 then -s0.1[j] else s0.1[j]).natAbs < 2 ^ 1000 := by
        have : (if s0.1[j] < 0 then -s0.1[j] else s0.1[j]).natAbs = s0.1[j].natAbs := by split <;> omega
        rw [this]
        exact wn
      refine ⟨_, rfl, _, rfl, _, rfl, _, rfl, _, _, rfl, rfl, wide_div apos awd (by decide) (by decide), _, _, rfl, rfl, ?_⟩
      have lft : 1 ≤ -leastP s0 st / (if s0.1[j] < 0 then -s0.1[j] else s0.1[j]) + 1 := by
        have := Int.ediv_nonneg (a := -leastP s0 st) (b := if s0.1[j] < 0 then -s0.1[j] else s0.1[j]) (by omega) (by omega)
        omega
      refine ⟨_, rfl, _, _, rfl, rfl, .inl ⟨by decide, by decide⟩, _, rfl, _, _, rfl, rfl, _, rfl, ?_⟩
      refine yesDec (fun c => ?_) (fun c => ?_)
      · refine ⟨_, rfl, _, rfl, _, _, rfl, rfl, _, rfl, ?_⟩
        refine yesDec (fun c1 => ?_) (fun c1 => ?_)
        · refine ⟨_, rfl, _, rfl, _, _, rfl, rfl, _, _, rfl, rfl, by show 2 ≤ sizeLine; decide, fun R2 nR2 => ?_⟩
          exact q _ _ (Same.trans s05 (sameNew nR2)) ⟨R2, j, _, st[j], rfl, upd_same, ep, by omega, by omega⟩
        · refine ⟨_, rfl, _, rfl, _, _, rfl, rfl, by show 2 ≤ sizeLine; decide, fun R2 nR2 => ?_⟩
          exact q _ _ (Same.trans s05 (sameNew nR2)) ⟨R2, j, _, st[j], rfl, upd_same, ep, by omega, by omega⟩
      · refine ⟨_, rfl, _, rfl, _, _, rfl, rfl, _, rfl, ?_⟩
        refine yesDec (fun c1 => ?_) (fun c1 => ?_)
        · refine ⟨_, rfl, _, rfl, _, rfl, _, rfl, _, _, rfl, rfl, _, _, rfl, rfl, ⟨by decide, by decide⟩, by show 2 ≤ sizeLine; decide, fun R2 nR2 => ?_⟩
          have sR2 := sameNew (o := .tup [.int (j : Nat), .int ((st[j].1 + st[j].2) / 2)]) nR2
          exact ⟨_, _, rfl, Same.trans sm5 sR2, _, .ref R2, _, _, _, _, _, _, rfl, by omega, .inl ⟨R2, j, _, st[j], rfl, upd_same, ep, by omega, by omega⟩⟩
        · rcases hf5 with g | ⟨g1, g2⟩
          · exact ⟨sm5, wd, fv, _, _, _, _, _, _, rfl, w2, .inl g⟩
          · exact ⟨sm5, wd, fv, _, _, _, _, _, _, rfl, w2, more _ _ _ w2 (.inr ⟨rfl, rfl, rfl, .inr (by omega)⟩)⟩
    · obtain ⟨sm4, wd, fv, y7, y8, y9, y10, y11, y12, rfl, w2, hf4⟩ := p
      refine ⟨Same.trans sm3 sm4, wd, fv, _, _, _, y7, y8, y9, y10, y11, y12, rfl, w2, .inl ?_⟩
      rcases hf4 with h | ⟨_, h⟩
      · exact h
      · exfalso
        have e := low_high (a := s0.1) (st := st) (fun m n p e1 e2 => h m n p (by rw [List.length_map]; exact (List.getElem?_eq_some_iff.mp e1).1) e1 e2) hlo
        unfold leastP at hm0
        unfold mostP at hm1
        omega
  · obtain ⟨sm, wd, fv, y4, y5, y6, y7, y8, y9, y10, y11, y12, rfl, w1, hf⟩ := p
    refine ⟨_, rfl, ?_⟩
    rcases hf with h | ⟨h, _⟩
    · exact q _ _ sm h
    · exact absurd h (by omega)

end

end LW

namespace LW
open PySem PySem.Spec PyProof.Rows L2
local macro_rules | `(tactic| walk_at "go1") => `(tactic| first
  | refine ⟨_, rfl, ?_⟩
  | refine ⟨_, _, rfl, rfl, ?_⟩
  | refine ⟨show (0 : Int) < _ from by omega, ?_⟩
  | refine ⟨show CMul _ _ from by first | exact .inl ⟨by omega, by omega⟩ | exact .inr ⟨by omega, by omega⟩, ?_⟩
  | refine ⟨show CDiv _ _ from ⟨by omega, by omega⟩, ?_⟩)
local macro_rules | `(tactic| walk_at "go") => `(tactic| repeat walk_at "go1")

section
variable {P : Program} {w : World} {K : PySem.W.Frag} {mg : Str → Option Value} {base : Heap}

theorem size_below {st : List Iv} {j : Nat} {p : Iv} {c : Int} (e : st[j]? = some p) (h1 : p.1 ≤ c) (h2 : c < p.2) : size (below st j p c) < size st ∧ size (above st j p c) < size st :=
  ⟨size_cut (r := (p.1, c)) e (by dsimp only; omega), size_cut (r := (c + 1, p.2)) e (by dsimp only; omega)⟩
/-- what tried tells -/
def Found (K : PySem.W.Frag) (H0 H : Hp) (tv fv : V) (st : List Iv) (ss : List Sm) : Prop :=
  (fv = .non ∧ ∃ t, TrIn K H tv t ∧ tv ≠ .non ∧ isT ss st t = true) ∨ (tv = .non ∧ ∃ (fa : Addr) (fs : List Int), fv = .ref fa ∧ H0 fa = none ∧ H fa = some (.lst (fs.map V.int)) ∧ InS st fs ∧ holds ss fs = true)
/-- the sums that are left, of the sums ss: their numbers, and that they decide -/
structure Rest (ss : List Sm) (st : List Iv) (ps : List (Int × Sm)) : Prop where
  at_ : ∀ p ∈ ps, 0 ≤ p.1 ∧ ss[p.1.toNat]? = some p.2
  all : ∀ fs, InS st fs → (∀ p ∈ ps, val p.2 fs ≤ 0) → holds ss fs = true
  good : ∀ p ∈ ps, p.2.1.length = st.length ∧ ∀ n ∈ p.2.1, Wd 1000 n
abbrev s__tried : Stmt := topS 49
theorem sc__tried : FnScope ["stretch", "ahead", "rest", "number", "one", "least", "most", "box", "at", "lower", "upper", "below", "filling", "above", "low", "_"] ["stretch", "ahead"] (defScope s__tried) := ⟨rfl, rfl, rfl, by decide +kernel, rfl, by decide +kernel, by decide +kernel⟩

def spTr (K : PySem.W.Frag) (i : Nat) : Sp := fun vs H Q _ => ∃ (a r : Addr) (ws rs : List V) (st : List Iv) (ps : List (Int × Sm)) (ss : List Sm), vs = [.ref a, .ref r] ∧ SqL K H a ws ∧ A2 (PrI K H) ws st ∧ StrG st.length st ∧ st.length ≤ 1000 ∧ SqL K H r rs ∧ A2 (NsIn K H) rs ps ∧ ps.length ≤ 1000 ∧ Rest ss st ps ∧ size st + 1 ≤ i ∧
  ∀ (H' : Hp) (R : Addr) (tv fv : V), Same H H' → H' R = some (.tup [tv, fv]) → Found K H H' tv fv st ss → Q (.ref R) H'
theorem ok__tried {f : Addr} {fd : FuncData} {k i : Nat} (F : Fun K "_tried" "_tried" s__tried f fd) (B : Bl mg) (c__least_and_most : C8.Cal P w K mg base k "_least_and_most" (spLM K) []) (c__where_to_cut : C8.Cal P w K mg base k "_where_to_cut" (spWhere K) []) (c__cut : C8.Cal P w K mg base k "_cut" (spCut K) []) (c__tried : C8.Cal P w K mg base k "_tried" (spTr K i) []) : FnOk P w K mg base CX0 (k + 1) f fd ["stretch", "ahead"] (spTr K (i + 1)) := by
  refine F.ok sc__tried (fun vs H Q E h => ?_) (fun cdv A outer s H vs Q E hr h => ?_)
  · obtain ⟨a, r, ws, rs, st, ps, ss, rfl, _⟩ := h
    rfl
  obtain ⟨a, r, ws, rs, st, ps, ss, rfl, hS, hW, hG, hz, hR, hP, lp, hX, hi, q⟩ := h
  refine ⟨_, (pss_cons (ps_set (i := 2) sc__tried.nd rfl (.inl rfl) (pe_lst pa_nil))
    (pss_cons (ps_for PassesOwn.never rfl (kList_ (K := K) rfl (pv 1)) (kT2 (K := K) rfl rfl (pg_name (i := 3) sc__tried.nd rfl (.inl rfl)) (pg_name (i := 4) sc__tried.nd rfl (.inl rfl)))
      (pss_cons (ps_asg (C8.pe_c c__least_and_most hr (Nat.le_refl _) (by rfl) (pa_cons (pv 4) (pa_cons (pv 0) pa_nil))) (kT2 (K := K) rfl rfl (pg_name (i := 5) sc__tried.nd rfl (.inl rfl)) (pg_name (i := 6) sc__tried.nd rfl (.inl rfl))))
      (pss_cons (ps_if (pt_cmpR op_gt (pv 5) pe_int (nomark _))
        (pss_one (ps_ret (pe_tup (pa_cons (pe_tup (pa_cons pe_str (pa_cons (pv 3) pa_nil))) (pa_cons pe_non pa_nil)))))
        pss_nil)
      (pss_one (ps_if (pt_cmpR op_gt (pv 6) pe_int (nomark _))
        (pss_one (ps_expr (pe_bm PySem.F.plainAttrs_list PySem.F.slot_list_append PySem.F.type_list_append mt_append (pv 2) (pa_cons (pe_tup (pa_cons (pv 3) (pa_cons (pv 4) pa_nil))) pa_nil))))
        pss_nil)))))
    (pss_cons (ps_if (pt_cmpR op_eq (pe_callB (kLen (K := K) rfl) (by rfl) B.len PySem.boot_len (pa_cons (pv 2) pa_nil)) pe_int (nomark _))
      (pss_one (ps_ret (pe_tup (pa_cons pe_non (pa_cons (pe_lc (own := [("low", 14), ("_", 15)]) rfl sc__tried.nd (kList_ (K := K) rfl (pv 0)) (blkOk_by (own := [("low", 14), ("_", 15)]) (N := ["stretch", "ahead", "rest", "number", "one", "least", "most", "box", "at", "lower", "upper", "below", "filling", "above", "low", "_"]) (sc := defScope s__tried) (by decide +kernel)) (fun _ _ _ _ _ => (pgT2 (K := K) rfl (pgN (i := 14) sc__tried.nd rfl (.inl rfl) (.inr rfl)) (pgN (i := 15) sc__tried.nd rfl (.inl rfl) (.inr rfl)) rfl (by rfl) (by rfl) (by rfl) (by rfl))) (fun _ _ _ _ _ => pts_nil) (fun _ _ _ _ _ => (pv 14))) pa_nil)))))
      pss_nil)
    (pss_cons (ps_asg (C8.pe_c c__where_to_cut hr (Nat.le_refl _) (by rfl) (pa_cons (pv 0) (pa_cons (pv 2) pa_nil))) (kT2 (K := K) rfl rfl (pg_name (i := 7) sc__tried.nd rfl (.inl rfl)) (pg_name (i := 8) sc__tried.nd rfl (.inl rfl))))
    (pss_cons (ps_asg (C8.pe_c c__cut hr (Nat.le_refl _) (by rfl) (pa_cons (pv 0) (pa_cons (pv 7) (pa_cons (pv 8) pa_nil)))) (kT2 (K := K) rfl rfl (pg_name (i := 9) sc__tried.nd rfl (.inl rfl)) (pg_name (i := 10) sc__tried.nd rfl (.inl rfl))))
    (pss_cons (ps_asg (C8.pe_c c__tried hr (Nat.le_refl _) (by rfl) (pa_cons (pv 9) (pa_cons (pv 2) pa_nil))) (kT2 (K := K) rfl rfl (pg_name (i := 11) sc__tried.nd rfl (.inl rfl)) (pg_name (i := 12) sc__tried.nd rfl (.inl rfl))))
    (pss_cons (ps_if (pt_cmpR op_isN (pv 11) pe_non (nomark _))
      (pss_one (ps_ret (pe_tup (pa_cons pe_non (pa_cons (pv 12) pa_nil)))))
      pss_nil)
    (pss_cons (ps_asg (C8.pe_c c__tried hr (Nat.le_refl _) (by rfl) (pa_cons (pv 10) (pa_cons (pv 2) pa_nil))) (kT2 (K := K) rfl rfl (pg_name (i := 13) sc__tried.nd rfl (.inl rfl)) (pg_name (i := 12) sc__tried.nd rfl (.inl rfl))))
    (pss_cons (ps_if (pt_cmpR op_isN (pv 13) pe_non (nomark _))
      (pss_one (ps_ret (pe_tup (pa_cons pe_non (pa_cons (pv 12) pa_nil)))))
      pss_nil)
    (pss_one (ps_ret (pe_tup (pa_cons (pe_tup (pa_cons pe_str (pa_cons (pv 7) (pa_cons (pv 8) (pa_cons (pv 11) (pa_cons (pv 13) pa_nil)))))) (pa_cons pe_non pa_nil)))))))))))))), ?_⟩
  have szl : (100000 : Nat) < sizeLine := by decide
  have lw := hW.len
  have lr := hP.len
  have hlo : ∀ p ∈ st, p.1 ≤ p.2 := fun p hp => (hG.2 p hp).2.1
  refine ⟨by show 0 ≤ sizeLine; decide, fun L nL => ?_⟩
  refine ⟨_, rfl, r, rfl, ⟨_, Same.seq (sameNew nL) hR⟩, ?_⟩
  refine for_it (walk_list (xs := rs)) (fun j σ H' => Same H H' ∧ ∃ (xs : List V) (qs : List (Int × Sm)) (y3 y4 y5 y6 : Option V), σ = [some (.ref a), some (.ref r), some (.ref L), y3, y4, y5, y6, none, none, none, none, none, none, none, none, none] ∧ H' L = some (.lst xs) ∧ A2 (NsIn K H') xs qs ∧ qs.length ≤ j ∧
      (∀ p ∈ qs, p ∈ ps ∧ leastP p.2 st ≤ 0 ∧ 0 < mostP p.2 st) ∧ ∀ fs, InS st fs → (∀ p ∈ qs, val p.2 fs ≤ 0) → ∀ p ∈ ps.take j, val p.2 fs ≤ 0)
    ⟨sameNew nL, [], [], none, none, none, none, rfl, upd_same, .nil, Nat.le_refl _, fun p hp => by simp at hp, fun fs _ _ p hp => by simp at hp⟩ (fun j σ H' _ p => Same.seq p.1 hR) (fun j x σ H1 H2 hj p y => ?_) (fun σ H' p => ?_)
  · obtain ⟨sm, xs, qs, y3, y4, y5, y6, rfl, hL, hQ, lq, hq, hall⟩ := p
    obtain ⟨rfl, ex⟩ := y
    obtain ⟨⟨k0, s0⟩, es, tt, wv, rfl, ht, hw0⟩ := A2.at hP ex
    have ms := List.mem_of_getElem? es
    obtain ⟨hg1, hg2⟩ := hX.good _ ms
    obtain ⟨ha1, ha2⟩ := hX.at_ _ ms
    dsimp only at hg1 hg2 ha1 ha2 hw0 ht
    refine ⟨_, _, rfl, tupS sm ht, rfl, _, _, rfl, _, _, rfl, rfl, ?_⟩
    refine ⟨_, rfl, _, rfl, wv, a, s0, st, rfl, SumIn.mono sm hw0, ⟨ws, Same.seq sm hS, priTS (tsOf sm) hW⟩, hg1, hz, hg2, strG_wd hG, fun R H3 nR s3 eR => ?_⟩
    refine ⟨_, _, rfl, .of eR, rfl, _, _, rfl, _, _, rfl, rfl, ?_⟩
    have sm3 := Same.trans sm s3
    refine ⟨_, rfl, _, _, rfl, rfl, _, rfl, ?_⟩
    refine yesDec (fun c => ?_) (fun c => ?_)
    · refine ⟨_, rfl, by show 2 ≤ sizeLine; decide, fun T1 nT1 => ⟨by show 2 ≤ sizeLine; decide, fun T2 nT2 => ?_⟩⟩
      have sT1 := sameNew (o := .tup [.str "sum", .int k0]) nT1
      have sT2 := sameNew (o := .tup [.ref T1, .non]) nT2
      refine q _ T2 _ _ (Same.trans sm3 (Same.trans sT1 sT2)) upd_same (.inl ⟨rfl, .sum k0, .sum (.of (sT2 _ _ upd_same)), (by simp), ?_⟩)
      have c' : 0 < least s0 st := by rw [← leastP_least hlo]; exact c
      simp [isT, ha1, ha2, c']
    · refine ⟨_, rfl, _, _, rfl, rfl, _, rfl, ?_⟩
      have et : ps.take (j + 1) = ps.take j ++ [(k0, s0)] := by rw [List.take_add_one, es]; rfl
      refine yesDec (fun c2 => ?_) (fun c2 => ?_)
      · have hL3 := s3 _ _ hL
        refine ⟨_, rfl, .inl ⟨rfl, _, .of hL3⟩, _, rfl, _, rfl, by show 2 ≤ sizeLine; decide, fun T1 nT1 => ?_⟩
        have sT1 := sameNew (o := .tup [.int k0, wv]) nT1
        have lxs := hQ.len
        refine ⟨L, xs, _, rfl, rfl, sT1 _ _ hL3, by omega, ?_⟩
        have t6 : TS H3 (upd (upd H3 T1 (.tup [.int k0, wv])) L (.lst (xs ++ [.ref T1]))) := TS.trans (tsOf sT1) (tsLst (sT1 _ _ hL3))
        refine ⟨sameMut (Same.trans sm3 sT1) nL, _, qs ++ [(k0, s0)], _, _, _, _, rfl, upd_same, (nsTS (TS.trans (tsOf s3) t6) hQ).app (.cons ⟨T1, wv, rfl, tsTup (tsLst (sT1 _ _ hL3)) (.of upd_same), tsSum (TS.trans (tsOf sm3) t6) hw0⟩ .nil), by simp; omega, fun p hp => ?_, fun fs hi hv p hp => ?_⟩
        · rcases List.mem_append.mp hp with hp | hp
          · exact hq p hp
          · rw [List.mem_singleton.mp hp]
            exact ⟨ms, by dsimp only; omega, c2⟩
        · rw [et] at hp
          rcases List.mem_append.mp hp with hp | hp
          · exact hall fs hi (fun p hp => hv p (List.mem_append_left _ hp)) p hp
          · exact hv p (List.mem_append_right _ hp)
      · refine ⟨sm3, xs, qs, _, _, _, _, rfl, s3 _ _ hL, nsTS (tsOf s3) hQ, by omega, hq, fun fs hi hv p hp => ?_⟩
        rw [et] at hp
        rcases List.mem_append.mp hp with hp | hp
        · exact hall fs hi hv p hp
        · rw [List.mem_singleton.mp hp]
          have := most_le (s := s0) hi hg1
          dsimp only
          omega
  obtain ⟨sm, xs, qs, y3, y4, y5, y6, rfl, hL, hQ, lq, hq, hall⟩ := p
  have et : ps.take rs.length = ps := List.take_of_length_le (by omega)
  rw [et] at hall
  have lxs := hQ.len
  refine ⟨_, rfl, _, _, rfl, .inl (.of hL), rfl, _, rfl, ?_⟩
  refine ite2 (fun e => ?_) (fun e => ?_)
  · -- nothing is left: all hold
    have e' := of_decide_eq_true e
    have lx0 : xs.length = 0 := by
      injection e' with e'
      omega
    have q0 : qs = [] := List.eq_nil_of_length_eq_zero (by omega)
    refine ⟨_, rfl, a, rfl, ⟨_, Same.seq sm hS⟩, fun D nD => ?_⟩
    refine lc_it (walk_list (xs := ws)) (Made H' D (RI fun j => ((st.map (·.1))[j]?.getD 0))) (made0 nD) (fun j H2 _ p => Same.seq p.same (Same.seq sm hS)) (fun j x H2 H3 hj p y => ?_) (fun H2 p => ?_)
    · obtain ⟨rfl, ex⟩ := y
      obtain ⟨pr, ep, ⟨tp, rfl, hp⟩⟩ := A2.at hW ex
      refine ⟨_, _, rfl, tupS (Same.trans sm p.same) hp, rfl, _, _, rfl, _, _, rfl, rfl, rfl, ?_⟩
      refine lcYes ?_
      refine ⟨_, rfl, ?_⟩
      exact p.push nD (stRI _) (by omega) (Same.refl _) (by simp [RI, ep])
    obtain ⟨eD, s2⟩ := madeRI p
    have e2 : (List.range ws.length).map (fun j => ((st.map (·.1))[j]?.getD 0)) = st.map (·.1) := by
      apply List.ext_getElem?
      intro j
      by_cases hj : j < st.length
      · simp [lw, hj]
      · rw [List.getElem?_eq_none (by simp; omega), List.getElem?_eq_none (by simp; omega)]
    rw [e2] at eD
    refine ⟨by show 2 ≤ sizeLine; decide, fun T2 nT2 => ?_⟩
    have sT2 := sameNew (o := .tup [.non, .ref D]) nT2
    have il := ins_low hlo
    refine q _ T2 _ _ (Same.trans sm (Same.trans s2 sT2)) upd_same (.inr ⟨rfl, D, st.map (·.1), rfl, Same.free sm nD, sT2 _ _ eD, il, hX.all _ il (hall _ il fun p hp => by rw [q0] at hp; cases hp)⟩)
  have n0 : 0 < qs.length := by
    have : xs.length ≠ 0 := fun z => e (by rw [z]; rfl)
    omega
  have hgq : ∀ p ∈ qs, p.2.1.length = st.length ∧ ∀ n ∈ p.2.1, Wd 1000 n := fun p hp => hX.good p (hq p hp).1
  refine ⟨_, rfl, _, rfl, a, L, ws, xs, st, qs, rfl, Same.seq sm hS, priTS (tsOf sm) hW, hG, hz, .of hL, hQ, n0, hgq, fun p hp => (hq p hp).2, fun H2 cv s2 hcv => ?_⟩
  obtain ⟨ct, j, c, p, rfl, hct, ep, c1, c2⟩ := hcv
  refine ⟨_, _, rfl, .of hct, rfl, _, _, rfl, _, _, rfl, rfl, ?_⟩
  have sm2 := Same.trans sm s2
  refine ⟨_, rfl, _, rfl, _, rfl, a, ws, st, (j : Int), c, p, rfl, Same.seq sm2 hS, priTS (tsOf sm2) hW, by omega, by simpa using ep, hz, fun R l u ws1 ws2 H3 nR nl nu s3 eR el hA eu hB => ?_⟩
  rw [Int.toNat_natCast] at hA hB
  refine ⟨_, _, rfl, .of eR, rfl, _, _, rfl, _, _, rfl, rfl, ?_⟩
  have sm3 := Same.trans sm2 s3
  have hL3 := s3 _ _ (s2 _ _ hL)
  have hQ3 := nsTS (tsOf (Same.trans s2 s3)) hQ
  have gb := strG_below hG ep c1 c2
  have sz := size_below ep c1 c2
  have hj := (List.getElem?_eq_some_iff.mp ep).1
  have rest : ∀ {st' : List Iv}, StrG st.length st' → (∀ fs, InS st' fs → InS st fs) → Rest ss st' qs := fun hg hs => ⟨fun p hp => hX.at_ p (hq p hp).1, fun fs hi hv => hX.all fs (hs fs hi) (hall fs (hs fs hi) hv), fun p hp => ⟨(hgq p hp).1.trans hg.1.symm, (hgq p hp).2⟩⟩
  have lb : (below st j p c).length = st.length := gb.1.1
  have la : (above st j p c).length = st.length := gb.2.1
  have inb : ∀ fs, InS (below st j p c) fs → InS st fs := fun fs h => ins_wide (r := (p.1, c)) ep (Int.le_refl _) (by dsimp only; omega) h
  have ina : ∀ fs, InS (above st j p c) fs → InS st fs := fun fs h => ins_wide (r := (c + 1, p.2)) ep (by dsimp only; omega) (Int.le_refl _) h
  refine ⟨_, rfl, _, rfl, l, L, ws1, xs, below st j p c, qs, ss, rfl, .of el, hA, (by rw [lb]; exact gb.1), by omega, .of hL3, hQ3, by omega, rest gb.1 inb, by omega, fun H4 R4 tv fv s4 e4 f4 => ?_⟩
  refine ⟨_, _, rfl, .of e4, rfl, _, _, rfl, _, _, rfl, rfl, ?_⟩
  have sm4 := Same.trans sm3 s4
  have hH4 : ∀ {b : Addr}, H3 b = none → H b = none := fun h => Same.free sm3 h
  refine ⟨_, rfl, rfl, _, rfl, ?_⟩
  rcases f4 with ⟨rfl, t1, ht1, hn1, i1⟩ | ⟨rfl, fa, fs, rfl, g1, g2, g3, g4⟩
  case inr =>
    refine iteT ⟨_, rfl, by show 2 ≤ sizeLine; decide, fun T2 nT2 => ?_⟩
    have sT2 := sameNew (o := .tup [.non, .ref fa]) nT2
    exact q _ T2 _ _ (Same.trans sm4 sT2) upd_same (.inr ⟨rfl, fa, fs, rfl, hH4 g1, sT2 _ _ g2, inb fs g3, g4⟩)
  rw [decide_eq_false hn1]
  refine iteF ?_
  have hL4 := s4 _ _ hL3
  refine ⟨_, rfl, _, rfl, u, L, ws2, xs, above st j p c, qs, ss, rfl, .of (s4 _ _ eu), priTS (tsOf s4) hB, (by rw [la]; exact gb.2), by omega, .of hL4, nsTS (tsOf s4) hQ3, by omega, rest gb.2 ina, by omega, fun H5 R5 tv2 fv2 s5 e5 f5 => ?_⟩
  refine ⟨_, _, rfl, .of e5, rfl, _, _, rfl, _, _, rfl, rfl, ?_⟩
  have sm5 := Same.trans sm4 s5
  refine ⟨_, rfl, rfl, _, rfl, ?_⟩
  rcases f5 with ⟨rfl, t2, ht2, hn2, i2⟩ | ⟨rfl, fa, fs, rfl, g1, g2, g3, g4⟩
  case inr =>
    refine iteT ⟨_, rfl, by show 2 ≤ sizeLine; decide, fun T2 nT2 => ?_⟩
    have sT2 := sameNew (o := .tup [.non, .ref fa]) nT2
    exact q _ T2 _ _ (Same.trans sm5 sT2) upd_same (.inr ⟨rfl, fa, fs, rfl, Same.free sm4 g1, sT2 _ _ g2, ina fs g3, g4⟩)
  rw [decide_eq_false hn2]
  refine iteF ?_
  refine ⟨_, rfl, _, rfl, _, rfl, _, rfl, by show 5 ≤ sizeLine; decide, fun T1 nT1 => ⟨by show 2 ≤ sizeLine; decide, fun T2 nT2 => ?_⟩⟩
  have sT1 := sameNew (o := .tup [.str "cut", .int (j : Int), .int c, tv, tv2]) nT1
  have sT2 := sameNew (o := .tup [.ref T1, .non]) nT2
  have sT := Same.trans sT1 sT2
  refine q _ T2 _ _ (Same.trans sm5 sT) upd_same (.inl ⟨rfl, .cut (j : Int) c t1 t2, .cut (.of (sT2 _ _ upd_same)) (trTS (tsOf (Same.trans s5 sT)) ht1) (trTS (tsOf sT) ht2), (by simp), ?_⟩)
  have ep' : st[((j : Nat) : Int).toNat]? = some p := by simpa using ep
  rw [isT_cut ep', Int.toNat_natCast, i1, i2]
  have h0 : (0 : Int) ≤ (j : Int) := by omega
  simp [cutOk, ep, c1, c2, h0]
abbrev s_tried : Stmt := topS 48
theorem sc_tried : FnScope ["stretch", "some"] ["stretch", "some"] (defScope s_tried) := ⟨rfl, rfl, rfl, by decide +kernel, rfl, by decide +kernel, by decide +kernel⟩

def spTried (K : PySem.W.Frag) : Sp := fun vs H Q _ => ∃ (a b : Addr) (ws us : List V) (st : List Iv) (ss : List Sm), vs = [.ref a, .ref b] ∧ SqL K H a ws ∧ A2 (PrI K H) ws st ∧ SqL K H b us ∧ A2 (SumIn K H) us ss ∧ StrG st.length st ∧ st.length ≤ 1000 ∧ ss.length ≤ 1000 ∧ size st ≤ 60 ∧ (∀ s ∈ ss, s.1.length = st.length ∧ ∀ n ∈ s.1, Wd 1000 n) ∧
  ∀ (H' : Hp) (R : Addr) (tv fv : V), Same H H' → H' R = some (.tup [tv, fv]) → Found K H H' tv fv st ss → Q (.ref R) H'
theorem enumIn {H : Hp} {us : List V} {ss : List Sm} {ts : List Addr} (hl : ts.length = us.length) (hU : A2 (SumIn K H) us ss) (hT : ∀ (j : Nat) t x, ts[j]? = some t → us[j]? = some x → H t = some (.tup [.int (j : Int), x])) :
    A2 (NsIn K H) (ts.map V.ref) (ss.zipIdx.map fun p => ((p.2 : Int), p.1)) := by
  have key : ∀ {us : List V} {ss : List Sm} {ts : List Addr} (k : Nat), ts.length = us.length → A2 (SumIn K H) us ss → (∀ (j : Nat) t x, ts[j]? = some t → us[j]? = some x → H t = some (.tup [.int ((k + j : Nat) : Int), x])) → A2 (NsIn K H) (ts.map V.ref) ((ss.zipIdx k).map fun p => ((p.2 : Int), p.1)) := by
    intro us ss ts k hl hU
    induction hU generalizing ts k with
    | nil =>
      intro _
      have : ts = [] := List.eq_nil_of_length_eq_zero hl
      subst this
      exact .nil
    | cons h t ih =>
      intro hT
      cases ts with
      | nil => simp at hl
      | cons t0 tr =>
        rw [List.zipIdx_cons]
        refine .cons ⟨t0, _, rfl, .of (hT 0 t0 _ rfl rfl), h⟩ (ih (k + 1) (by simpa using hl) fun j t x e1 e2 => ?_)
        have := hT (j + 1) t x (by simpa using e1) (by simpa using e2)
        rw [show k + 1 + j = k + (j + 1) by omega]
        exact this
  exact key 0 hl hU fun j t x e1 e2 => by
    rw [Nat.zero_add]
    exact hT j t x e1 e2
theorem ok_tried {f : Addr} {fd : FuncData} {k : Nat} (F : Fun K "tried" "tried" s_tried f fd) (B : Bl mg) (c__tried : C8.Cal P w K mg base k "_tried" (spTr K 61) []) : FnOk P w K mg base CX0 (k + 1) f fd ["stretch", "some"] (spTried K) := by
  refine F.ok sc_tried (fun vs H Q E h => ?_) (fun cdv A outer s H vs Q E hr h => ?_)
  · obtain ⟨a, b, ws, us, st, ss, rfl, _⟩ := h
    rfl
  obtain ⟨a, b, ws, us, st, ss, rfl, hS, hW, hB, hU, hG, hz, hz2, hsz, hs, q⟩ := h
  refine ⟨_, (pss_one (ps_ret (C8.pe_c c__tried hr (Nat.le_refl _) (by rfl) (pa_cons (pe_callTy (kList (K := K) rfl) (by rfl) B.list (by decide +kernel) (pa_cons (pv 0) pa_nil)) (pa_cons (kListE (K := K) rfl rfl (pv 1) (by rfl) B.list (by rfl) B.enumerate) pa_nil))))), ?_⟩
  have lu := hU.len
  refine ⟨_, rfl, a, ws, rfl, .inl hS, fun A1 nA => ?_⟩
  have sA := sameNew (o := .lst ws) nA
  refine ⟨_, rfl, b, us, rfl, Same.seq sA hB, by omega, fun H2 p ts np s2 ep lt hT => ?_⟩
  have s02 := Same.trans sA s2
  have hU2 : A2 (SumIn K H2) us ss := A2.map (B' := ss) (fun _ _ _ r => SumIn.mono s02 r) (fun _ m => m) hU
  have hP := enumIn (by omega) hU2 hT
  have mem : ∀ p ∈ ss.zipIdx.map (fun p => ((p.2 : Int), p.1)), 0 ≤ p.1 ∧ ss[p.1.toNat]? = some p.2 := fun p hp => by
    obtain ⟨⟨s0, i⟩, hm, rfl⟩ := List.mem_map.mp hp
    have := List.mem_zipIdx_iff_getElem?.mp hm
    exact ⟨by dsimp only; omega, by simpa using this⟩
  refine ⟨A1, p, ws, ts.map V.ref, st, ss.zipIdx.map fun p => ((p.2 : Int), p.1), ss, rfl, .of (s2 _ _ upd_same), priTS (tsOf s02) hW, hG, hz, .of ep, hP, by simp; omega, ⟨mem, fun fs _ hv => ?_, fun p hp => ?_⟩, by omega, fun H3 R tv fv s3 e3 f3 => q H3 R tv fv (Same.trans s02 s3) e3 ?_⟩
  · rw [holds, List.all_eq_true]
    intro s0 hs0
    obtain ⟨i, hi⟩ := List.mem_iff_getElem?.mp hs0
    exact decide_eq_true (hv ((i : Int), s0) (List.mem_map.mpr ⟨(s0, i), List.mem_zipIdx_iff_getElem?.mpr hi, rfl⟩))
  · exact hs _ (List.mem_of_getElem? (mem p hp).2)
  · rcases f3 with h | ⟨h1, fa, fs, h2, h3, h4⟩
    · exact .inl h
    · exact .inr ⟨h1, fa, fs, h2, Same.free s02 h3, h4⟩

end

end LW

namespace LW
open PySem PySem.Spec PyProof.Rows L2
local macro_rules | `(tactic| walk_at "go1") => `(tactic| first
  | refine ⟨_, rfl, ?_⟩
  | refine ⟨_, _, rfl, rfl, ?_⟩
  | refine ⟨show (0 : Int) < _ from by omega, ?_⟩
  | refine ⟨show CMul _ _ from by first | exact .inl ⟨by omega, by omega⟩ | exact .inr ⟨by omega, by omega⟩, ?_⟩
  | refine ⟨show CDiv _ _ from ⟨by omega, by omega⟩, ?_⟩)
local macro_rules | `(tactic| walk_at "go") => `(tactic| repeat walk_at "go1")

section
variable {P : Program} {w : World} {K : PySem.W.Frag} {mg : Str → Option Value} {base : Heap}

abbrev s__all_within : Stmt := topS 55
theorem sc__all_within : FnScope ["program", "top"] ["program"] (defScope s__all_within) := ⟨rfl, rfl, rfl, by decide +kernel, rfl, by decide +kernel, by decide +kernel⟩

def spAllW (K : PySem.W.Frag) (C : Addr) : Sp := fun vs H Q _ => ∃ (x : Addr) (tops : List Int) (rv : V), vs = [.ref x] ∧ PrIn K H C x tops rv ∧ tops.length ≤ 1000 ∧ ∀ (l : Addr) (us : List V) (H' : Hp), H l = none → Same H H' → H' l = some (.lst us) → A2 (PrI K H') us (wi tops) → Q (.ref l) H'
theorem ok__all_within {f C : Addr} {fd : FuncData} {k : Nat} (F : Fun K "_all_within" "_all_within" s__all_within f fd) (B : Bl mg) (qcl : Cls K C) (q_tops : CalP P w K mg base k C "tops" (spTopsP K C)) : FnOk P w K mg base CX0 (k + 2) f fd ["program"] (spAllW K C) := by
  refine F.ok sc__all_within (fun vs H Q E h => ?_) (fun cdv A outer s H vs Q E hr h => ?_)
  · obtain ⟨x, tops, rv, rfl, _⟩ := h
    rfl
  obtain ⟨x, tops, rv, rfl, hp, hz, q⟩ := h
  refine ⟨_, (pss_one (ps_ret (pe_lc (own := [("top", 1)]) rfl sc__all_within.nd (kList_ (K := K) rfl (pP q_tops qcl hr (by omega) (pv 0))) (blkOk_by (own := [("top", 1)]) (N := ["program", "top"]) (sc := defScope s__all_within) (by decide +kernel)) (fun _ _ _ _ _ => (pgN (i := 1) sc__all_within.nd rfl (.inl rfl) (.inr rfl))) (fun _ _ _ _ _ => pts_nil) (fun _ _ _ _ _ => (pe_tup (pa_cons pe_int (pa_cons (pv 1) pa_nil))))))), ?_⟩
  obtain ⟨dx, t, hx, ht⟩ := id hp
  refine ⟨_, rfl, x, dx, _, rfl, hx, x, tops, rv, rfl, hp, fun l H1 nl s1 hl => ?_⟩
  refine ⟨l, rfl, ⟨_, .of hl⟩, fun D nD => ?_⟩
  refine lc_it (walk_list (xs := tops.map V.int)) (Made H1 D (fun i y H' => ∃ p : Iv, (wi tops)[i]? = some p ∧ PrI K H' y p)) (made0 nD) (fun i H' _ p => .of (p.same _ _ hl)) (fun i x H2 H3 hi p y => ?_) (fun H2 p => ?_)
  · obtain ⟨rfl, ex⟩ := y
    have hi2 : i < tops.length := by simpa using hi
    have ex2 := mapAt ex hi2
    subst ex2
    refine ⟨rfl, ?_⟩
    refine lcYes ?_
    refine ⟨_, rfl, by show 2 ≤ sizeLine; decide, fun T nT => ?_⟩
    refine p.push nD (fun j y H4 H5 e h => ?_) (by omega) (sameNew nT) ⟨(0, tops[i]), by simp [wi, hi2], T, rfl, .of upd_same⟩
    obtain ⟨p, e1, t, e2, h3⟩ := h
    exact ⟨p, e1, t, e2, tsTup e h3⟩
  · obtain ⟨us, lu, eD, s2, hR⟩ := p
    refine q D us H2 (Same.free s1 nD) (Same.trans s1 s2) eD (A2.ofAt (by rw [lu, wi_len]; simp) fun j y p e1 e2 => ?_)
    obtain ⟨p', e3, h⟩ := hR j y e1
    rw [e2] at e3
    cases e3
    exact h

end

end LW

namespace LW
open PySem PySem.Spec PyProof.Rows L2
local macro_rules | `(tactic| walk_at "go1") => `(tactic| first
  | refine ⟨_, rfl, ?_⟩
  | refine ⟨_, _, rfl, rfl, ?_⟩
  | refine ⟨show (0 : Int) < _ from by omega, ?_⟩
  | refine ⟨show CMul _ _ from by first | exact .inl ⟨by omega, by omega⟩ | exact .inr ⟨by omega, by omega⟩, ?_⟩
  | refine ⟨show CDiv _ _ from ⟨by omega, by omega⟩, ?_⟩)
local macro_rules | `(tactic| walk_at "go") => `(tactic| repeat walk_at "go1")

section
variable {P : Program} {w : World} {K : PySem.W.Frag} {mg : Str → Option Value} {base : Heap}

/-- whether a verdict stands -/
def brV (tops : List Int) (tks : List Tk) (n : Int) (fs : List Int) : Bool := decide (0 ≤ n) && decide (n < (tks.length : Nat)) && (decide (fs.length = tops.length) && okF fs tops) && (tks[n.toNat]?.map fun t => holds t.sums fs).getD false
def keV (tops : List Int) (tks : List Tk) (ts : List Tr) : Bool := decide (ts.length = tks.length) && (tks.zip ts).all fun p => isT p.1.sums (wi tops) p.2
def stV (tops : List Int) (tks : List Tk) : Vd → Bool
  | .kept ts => keV tops tks ts
  | .broken n fs => brV tops tks n fs
theorem PgIn.tw {H : Hp} {C x : Addr} {tops : List Int} {R : Rs} (h : PgIn K H C x tops R) : TopsW tops := by
  obtain ⟨a, xs, h1, h2, h3, h4, h5, h6, h7, h8⟩ := h
  exact h8
theorem Made.pushL {H0 H H4 : Hp} {D : Addr} {R : Nat → V → Hp → Prop} {i : Nat} {y : V} (m : Made H0 D R i H) (hD : H0 D = none) (st : Stable R) (hi : i < 10000000) (e : Same H H4) (r : R i y H4) :
    ∃ acc, H4 D = some (.lst acc) ∧ acc.length < sizeLine ∧ Made H0 D R (i + 1) (upd H4 D (.lst (acc ++ [y]))) := by
  obtain ⟨ys, rfl, h1, h2, h3⟩ := m
  have h4 : H4 D = some (.lst ys) := e _ _ h1
  refine ⟨ys, h4, Nat.lt_of_lt_of_le hi (by decide), ys ++ [y], by simp, upd_same, sameMut (Same.trans h2 e) hD, fun j z hz => ?_⟩
  have t : TS H4 (upd H4 D (.lst (ys ++ [y]))) := tsLst h4
  by_cases hj : j < ys.length
  · rw [List.getElem?_append_left hj] at hz
    exact st _ _ _ _ (TS.trans (tsOf e) t) (h3 j z hz)
  · rw [List.getElem?_append_right (by omega)] at hz
    have hz' : j - ys.length = 0 := by
      cases q : j - ys.length with
      | zero => rfl
      | succ n => rw [q] at hz; simp at hz
    rw [hz'] at hz
    have ez : y = z := by simpa using hz
    have ej : j = ys.length := by omega
    subst ez ej
    exact st _ _ _ _ t r
theorem okF_bound {tops fs : List Int} (ht : TopsW tops) (hl : fs.length = tops.length) (h : okF fs tops = true) : ∀ x ∈ fs, 0 ≤ x ∧ x ≤ 9 := fun x hx => by
  obtain ⟨j, hj⟩ := List.mem_iff_getElem?.mp hx
  have lj := (List.getElem?_eq_some_iff.mp hj).1
  have := List.all_eq_true.mp h j (List.mem_range.mpr (by omega))
  simp only [Bool.and_eq_true, decide_eq_true_eq, hj, Option.getD_some] at this
  have hl2 : j < tops.length := by omega
  rw [List.getElem?_eq_getElem hl2, Option.getD_some] at this
  have := ht.2.2 _ (List.getElem_mem hl2)
  omega

end

end LW

namespace LW
open PySem PySem.Spec PyProof.Rows L2
local macro_rules | `(tactic| walk_at "go1") => `(tactic| first
  | refine ⟨_, rfl, ?_⟩
  | refine ⟨_, _, rfl, rfl, ?_⟩
  | refine ⟨show (0 : Int) < _ from by omega, ?_⟩
  | refine ⟨show CMul _ _ from by first | exact .inl ⟨by omega, by omega⟩ | exact .inr ⟨by omega, by omega⟩, ?_⟩
  | refine ⟨show CDiv _ _ from ⟨by omega, by omega⟩, ?_⟩)
local macro_rules | `(tactic| walk_at "go") => `(tactic| repeat walk_at "go1")

section
variable {P : Program} {w : World} {K : PySem.W.Frag} {mg : Str → Option Value} {base : Heap}

/-- trees in a list -/
def TrsIn (K : PySem.W.Frag) (H : Hp) (l : Addr) (ts : List Tr) : Prop := ∃ us, SqL K H l us ∧ A2 (TrIn K H) us ts ∧ (∀ t ∈ ts, t.deep ≤ 1000)
theorem trsTS {H H' : Hp} {us : List V} {ts : List Tr} (e : TS H H') (h : A2 (TrIn K H) us ts) : A2 (TrIn K H') us ts := A2.map (B' := ts) (fun _ _ _ r => trTS e r) (fun _ m => m) h
theorem TrsIn.same {H H' : Hp} {l : Addr} {ts : List Tr} (e : Same H H') (h : TrsIn K H l ts) : TrsIn K H' l ts := by
  obtain ⟨us, h1, h2, h3⟩ := h
  exact ⟨us, Same.seq e h1, trsTS (tsOf e) h2, h3⟩
theorem wiG {tops : List Int} (ht : TopsW tops) : StrG (wi tops).length (wi tops) := ⟨rfl, fun p hp => by
  obtain ⟨t, ht', rfl⟩ := List.mem_map.mp hp
  have := ht.2.2 t ht'
  dsimp only
  omega⟩
/-- a verdict in the heap -/
def VdAt (K : PySem.W.Frag) (H : Hp) (r : Addr) : Vd → Prop
  | .kept ts => ∃ l, SqT K H r [.str "kept", .ref l] ∧ TrsIn K H l ts
  | .broken n fs => ∃ fa, SqT K H r [.str "broken", .int n, .ref fa] ∧ SqL K H fa (fs.map V.int) ∧ fs.length ≤ 1000
theorem kbNe : ("kept" : Str) ≠ "broken" ∧ ("broken" : Str) ≠ "kept" := by decide +kernel

end

end LW

namespace LW
open PySem PySem.Spec PyProof.Rows L2
local macro_rules | `(tactic| walk_at "go1") => `(tactic| first
  | refine ⟨_, rfl, ?_⟩
  | refine ⟨_, _, rfl, rfl, ?_⟩
  | refine ⟨show (0 : Int) < _ from by omega, ?_⟩
  | refine ⟨show CMul _ _ from by first | exact .inl ⟨by omega, by omega⟩ | exact .inr ⟨by omega, by omega⟩, ?_⟩
  | refine ⟨show CDiv _ _ from ⟨by omega, by omega⟩, ?_⟩)
local macro_rules | `(tactic| walk_at "go") => `(tactic| repeat walk_at "go1")

section
variable {P : Program} {w : World} {K : PySem.W.Frag} {mg : Str → Option Value} {base : Heap}

/-- a def whose code object is known -/
structure FunC (K : PySem.W.Frag) (x qual : Str) (st : Stmt) (f c : Addr) (fd : FuncData) : Prop where
  ex : ∃ (oc : Value) (od : Option Addr) (kV doc pm : Value) (an : Option Addr) (ct : Value) (osl : Array (Option Value)),
    fd = PySem.W.fnOf x qual (defArgs st) (defBody st) (defScope st) .none kV doc pm an (.ref c) ct ∧ K.lookup f = some ⟨oc, od, .func fd, osl⟩ ∧ PySem.W.codeIn K (.ref c) qual = true
theorem FunC.ok {x qual : Str} {st : Stmt} {f c : Addr} {fd : FuncData} {N ps : List Str} {k : Nat} {sp : Sp} (F : FunC K x qual st f c fd) (S : FnScope N ps (defScope st)) (len : ∀ vs H Q E, sp vs H Q E → vs.length = ps.length)
    (hbody : ∀ (A : Around) (outer : List Env) (s : Shared) (H : Hp) (vs : List V) (Q : VK) (E : XK), Room k (A.deeper (envOfC qual (defScope st) s.heap.objs.size f (.ref c))) → sp vs H Q E →
      ∃ t, PSs (cxOf CX0 P w K mg base N qual (defScope st) f (.ref c) A outer s H E).nox (defBody st) t ∧ t { nx := fun _ H' => Q .non H', rt := Q } (L2.start N vs) H) : FnOk P w K mg base CX0 (k + 1) f fd ps sp := by
  obtain ⟨oc, od, kV, doc, pm, an, ct, osl, rfl, lk, hcd⟩ := F.ex
  refine fn_of lk hcd S len fun A outer s H vs Q E hr hsp => ?_
  obtain ⟨t, h, q⟩ := hbody A outer s H vs Q E hr hsp
  exact ⟨t, h.nox, q⟩
def jq : Str := ("judged" : Str) ++ ".<locals>." ++ "<lambda>"
/-- no object that is known, but perhaps a table -/
def NewT (H : Hp) (a : Addr) : Prop := ∀ o, H a = some o → ∃ ps, o = .tbl ps
theorem NewT.of {H : Hp} {a : Addr} (h : H a = none) : NewT H a := fun o e => by rw [h] at e; cases e
theorem NewT.ne {H : Hp} {a b : Addr} {o : HO} (h : NewT H a) (e : H b = some o) (n : ∀ ps, o ≠ .tbl ps) : b ≠ a := fun z => by
  obtain ⟨ps, e2⟩ := h o (by rw [← z]; exact e)
  exact n ps e2
theorem wiSize {tops : List Int} (ht : TopsW tops) : size (wi tops) ≤ 27 := by
  have key : ∀ l : List Int, (∀ t ∈ l, 0 ≤ t ∧ t ≤ 9) → size (wi l) ≤ 9 * l.length := by
    intro l
    induction l with
    | nil => intro _; simp [wi, size]
    | cons t r ih =>
      intro h
      have h1 := h t (List.mem_cons_self ..)
      have h2 := ih fun u hu => h u (List.mem_cons_of_mem _ hu)
      simp only [wi, size, List.map_cons, List.sum_cons, List.length_cons, List.map_map] at h2 ⊢
      omega
  have := key tops ht.2.2
  have := ht.2.1
  omega
/-- a verdict just told: its list is new -/
def VdNew (K : PySem.W.Frag) (H0 H : Hp) (r : Addr) : Vd → Prop
  | .kept ts => ∃ l us, SqT K H r [.str "kept", .ref l] ∧ NewT H0 l ∧ H l = some (.lst us) ∧ A2 (TrIn K H) us ts
  | .broken n fs => ∃ fa, SqT K H r [.str "broken", .int n, .ref fa] ∧ NewT H0 fa ∧ H fa = some (.lst (fs.map V.int))
/-- a verdict that is right -/
def Right (tops : List Int) (tks : List Tk) : Vd → Prop
  | .kept ts => ts.length = tks.length ∧ ∀ (i : Nat) t, ts[i]? = some t → ∃ tk, tks[i]? = some tk ∧ isT tk.sums (wi tops) t = true
  | .broken n fs => ∃ (j : Nat) (tk : Tk), n = (j : Int) ∧ tks[j]? = some tk ∧ InS (wi tops) fs ∧ holds tk.sums fs = true ∧ ∀ (m : Nat) tm, tks[m]? = some tm → (tm.many < tk.many ∨ tm.many = tk.many ∧ m < j) → ∃ t, isT tm.sums (wi tops) t = true
abbrev s_judged : Stmt := topS 54
theorem sc_judged : FnScope ["program", "stretch", "trees", "number", "tree", "filling", "told"] ["program"] (defScope s_judged) := ⟨rfl, rfl, rfl, by decide +kernel, rfl, by decide +kernel, by decide +kernel⟩

theorem sc_told : (defScope s_judged).names.lookup (PySem.Str.ofString "told") = some .cell := by decide +kernel
def spJudged (K : PySem.W.Frag) (C P0 : Addr) : Sp := fun vs H Q _ => ∃ (x : Addr) (tops : List Int) (R : Rs), vs = [.ref x] ∧ PgIn K H C x tops R ∧ LamX.Tabs [(P0, jq)] H ∧
  ∀ (r : Addr) (H' : Hp) (vd : Vd), LamX.ExtN H H' → LamX.Tabs [(P0, jq)] H' → VdNew K H H' r vd → Right tops (tasksP tops R) vd → Q (.ref r) H'
theorem ok_judged {f C c P0 : Addr} {fd : FuncData} {k : Nat} (F : FunC K "judged" "judged" s_judged f c fd) (B : Bl mg) (nsorted : mg "sorted" = none) (TB : LamX.TabB base mg c P0) (c_tasks : C8.Cal P w K mg base k "tasks" (spTasks K C) []) (c__all_within : C8.Cal P w K mg base k "_all_within" (spAllW K C) []) (c_tried : C8.Cal P w K mg base k "tried" (spTried K) []) : FnOk P w K mg base CX0 (k + 1) f fd ["program"] (spJudged K C P0) := by
  refine F.ok sc_judged (fun vs H Q E h => ?_) (fun A outer s H vs Q E hr h => ?_)
  · obtain ⟨x, tops, R, rfl, _⟩ := h
    rfl
  obtain ⟨x, tops, R, rfl, hP, hTab, q⟩ := h
  refine ⟨_, (pss_cons (ps_set (i := 6) sc_judged.nd rfl (.inr rfl) (C8.pe_c c_tasks hr (Nat.le_refl _) (by rfl) (pa_cons (pv 0) pa_nil)))
    (pss_cons (ps_set (i := 1) sc_judged.nd rfl (.inl rfl) (C8.pe_c c__all_within hr (Nat.le_refl _) (by rfl) (pa_cons (pv 0) pa_nil)))
    (pss_cons (ps_set (i := 2) sc_judged.nd rfl (.inl rfl) (pe_op op_rep (pe_lst (pa_cons pe_non pa_nil)) (pe_callB (kLen (K := K) rfl) (by rfl) B.len PySem.boot_len (pa_cons (pv 6) pa_nil))))
    (pss_cons (ps_for PassesOwn.never rfl (kList_ (K := K) rfl (pe_sortLam (K := K) (T := [(P0, jq)]) (i := 6) rfl hr (by rfl) nsorted (by rfl) B.range (pe_callB (kLen (K := K) rfl) (by rfl) B.len PySem.boot_len (pa_cons (pv 6) pa_nil)) TB rfl (List.mem_singleton.mpr rfl) (fun p hp _ => by rw [List.mem_singleton.mp hp]; rfl) rfl sc_told)) (pg_name (i := 3) sc_judged.nd rfl (.inl rfl))
      (pss_cons (ps_asg (C8.pe_c c_tried hr (Nat.le_refl _) (by rfl) (pa_cons (pv 1) (pa_cons (pe_ix (kIxT (K := K) rfl) (pe_ix (kIxL (K := K) rfl) (pv 6) (pv 3) (fun _ _ => rfl)) pe_int (fun _ _ => rfl)) pa_nil))) (kT2 (K := K) rfl rfl (pg_name (i := 4) sc_judged.nd rfl (.inl rfl)) (pg_name (i := 5) sc_judged.nd rfl (.inl rfl))))
      (pss_cons (ps_if (pt_cmpR op_isN (pv 4) pe_non (nomark _))
        (pss_one (ps_ret (pe_tup (pa_cons pe_str (pa_cons (pv 3) (pa_cons (pv 5) pa_nil))))))
        pss_nil)
      (pss_one (ps_asg (pv 4) (pg_sub (pv 2) (pv 3) set_list))))))
    (pss_one (ps_ret (pe_tup (pa_cons pe_str (pa_cons (pv 2) pa_nil))))))))), ?_⟩
  have tw := hP.tw
  refine ⟨_, rfl, x, tops, R, rfl, hP, fun L us H1 nl s1 hl hTk hG lus => ?_⟩
  obtain ⟨ps, eps, hA, _, _⟩ := hTk
  generalize tasksP tops R = tks at *
  have lps := hA.len
  have ltk : us.length = tks.length := by rw [lps, ← eps, List.length_map]
  obtain ⟨rv, hp⟩ := (hP.same s1).pr
  refine ⟨_, rfl, x, tops, rv, rfl, hp, by have := tw.2.1; omega, fun S ws H2 nS s2 hS hws => ?_⟩
  refine ⟨by show 1 ≤ sizeLine; decide, fun A0 nA0 => ?_⟩
  have sA0 := sameNew (o := .lst [.non]) nA0
  have szl : (10000000 : Nat) ≤ sizeLine := by decide
  refine ⟨_, rfl, _, _, rfl, .inl (.of (sA0 _ _ (s2 _ _ hl))), A0, _, _, rfl, rfl, upd_same, by omega, by omega, by simp; omega, fun A nA => ?_⟩
  have e1 : (List.replicate ((us.length : Nat) : Int).toNat [V.non]).flatten = List.replicate us.length V.non := by simp
  rw [e1]
  have sA := sameNew (o := .lst (List.replicate us.length V.non)) nA
  have s2A := Same.trans s2 (Same.trans sA0 sA)
  have hA4 : upd (upd H2 A0 (.lst [.non])) A (.lst (List.replicate us.length V.non)) A = some (.lst (List.replicate us.length V.non)) := upd_same
  have hS4 := (Same.trans sA0 sA) _ _ hS
  have hws4 := priTS (tsOf (Same.trans sA0 sA)) hws
  have s04 := Same.trans s1 s2A
  have nA0' : H A = none := Same.free (Same.trans s1 (Same.trans s2 sA0)) nA
  have hl4 := s2A _ _ hl
  have hAt : A2 (TkA K [L] (upd (upd H2 A0 (.lst [.non])) A (.lst (List.replicate us.length V.non)))) us ps := A2.map (B' := ps) (fun _ _ _ r => r.same s2A) (fun _ m => m) hA
  have nAw : ∀ p ∈ ps, p.2 ≠ A := fun p hp e => by
    obtain ⟨u, _, r⟩ := a2All hA p hp
    have := (r.same (Same.trans s2 sA0)).has
    rw [e] at this
    exact this nA
  have nAL : L ≠ A := fun e => by
    have := (Same.trans s2 sA0) _ _ hl
    rw [e, nA] at this
    cases this
  have nAS : S ≠ A := fun e => by
    have := sA0 _ _ hS
    rw [e, nA] at this
    cases this
  generalize upd (upd H2 A0 (.lst [.non])) A (.lst (List.replicate us.length V.non)) = H4 at *
  have hT4 := hTab.ext s04
  obtain ⟨kf, hkf⟩ : ∃ kf : Nat → Int, kf = fun j => ((tks[j]?.map fun t => (t.many : Int)).getD 0) := ⟨_, rfl⟩
  refine ⟨_, rfl, _, _, rfl, .inl (.of hl4), hT4, L, us, kf, rfl, by omega, rfl, hl4, fun j u eu => ?_, fun H5 O eN T5 nO => ?_⟩
  · obtain ⟨⟨tk, wa⟩, ep, ta, sa, tr, pa, wvs, e0, q1, _⟩ := A2.at hAt eu
    have etk : tks[j]? = some tk := by rw [← eps, List.getElem?_map, ep]; rfl
    exact ⟨ta, _, e0, q1, by rw [hkf]; simp [etk]⟩
  -- what is kept
  have x05 : LamX.ExtN H H5 := LamX.ExtN.trans (LamX.ExtN.of s04) eN
  have sO := sameNew (o := .lst ((ordK us.length kf).map fun (x : Nat) => V.int (x : Int))) nO
  have hl5 := sO _ _ (eN _ _ hl4 fun _ z => by cases z)
  have hS5 := sO _ _ (eN _ _ hS4 fun _ z => by cases z)
  have hA5 := sO _ _ (eN _ _ hA4 fun _ z => by cases z)
  have t45 : TS H4 (upd H5 O (.lst ((ordK us.length kf).map fun (x : Nat) => V.int (x : Int)))) := TS.trans (tsExt eN) (tsOf sO)
  have hws5 := priTS t45 hws4
  have hAt5 : A2 (TkA K [L] (upd H5 O (.lst ((ordK us.length kf).map fun (x : Nat) => V.int (x : Int))))) us ps := A2.map (B' := ps) (fun _ _ _ r => by
    obtain ⟨a, sa, tr, pa, wvs, e0, h1, h2, h3, h4, h5, h6, h7⟩ := r
    exact ⟨a, sa, tr, pa, wvs, e0, tsTup t45 h1, tsTup t45 h2, tsTup t45 h3, tsTup t45 h4, sO _ _ (eN _ _ h5 fun _ z => by cases z), sumsS t45 h6, h7⟩) (fun _ m => m) hAt
  have nOA : O ≠ A := fun e => by
    have := eN _ _ hA4 fun _ z => by cases z
    rw [← e, nO] at this
    cases this
  have x06 : LamX.ExtN H (upd H5 O (.lst ((ordK us.length kf).map fun (x : Nat) => V.int (x : Int)))) := x05.trans (LamX.ExtN.of sO)
  have T6 := T5.ext sO
  have hO6 : upd H5 O (.lst ((ordK us.length kf).map fun (x : Nat) => V.int (x : Int))) O = some (.lst ((ordK us.length kf).map fun (x : Nat) => V.int (x : Int))) := upd_same
  generalize upd H5 O (.lst ((ordK us.length kf).map fun (x : Nat) => V.int (x : Int))) = H6 at *
  have newB : ∀ {H' : Hp} {fa : Addr}, But A H6 H' → H' fa = none → NewT H fa := fun {H' fa} b n o e => by
    by_cases ht : ∃ ps, o = .tbl ps
    · exact ht
    · exfalso
      have h6 := x06 fa o e fun ps z => ht ⟨ps, z⟩
      have nA' : fa ≠ A := fun z => by rw [z, nA0'] at e; cases e
      rw [b fa o nA' h6] at n
      cases n
  have extB : ∀ {H' : Hp}, But A H6 H' → LamX.ExtN H H' := fun {H'} b a o e n => b a o (fun z => by rw [z, nA0'] at e; cases e) (x06 a o e n)
  have tabB : ∀ {H' : Hp} {xs : List V}, H6 A = some (.lst xs) → But A H6 H' → LamX.Tabs [(P0, jq)] H' := fun {H' xs} hA b p hp => by
    obtain ⟨ps, h1, h2, h3⟩ := T6 p hp
    refine ⟨ps, b _ _ (fun z => by rw [z, hA] at h1; cases h1) h1, h2, fun pos cv hc => ?_⟩
    obtain ⟨c', e1, e2⟩ := h3 pos cv hc
    exact ⟨c', e1, b _ _ (fun z => by rw [z, hA] at e2; exact absurd (Option.some.inj e2).symm (by unfold LamX.CodeO; simp)) e2⟩
  refine ⟨O, rfl, ⟨_, .of hO6⟩, ?_⟩
  have lo := ordK_len us.length kf
  refine for_it (walk_list (xs := (ordK us.length kf).map fun (x : Nat) => V.int (x : Int))) (fun i σ H' => But A H6 H' ∧ ∃ (ys : List V) (y3 y4 y5 : Option V), σ = [some (.ref x), some (.ref S), some (.ref A), y3, y4, y5, some (.ref L)] ∧ H' A = some (.lst ys) ∧ ys.length = us.length ∧
      (∀ m ∈ (ordK us.length kf).take i, ∃ (tv : V) (tk : Tk) (t : Tr), ys[m]? = some tv ∧ tks[m]? = some tk ∧ TrIn K H' tv t ∧ isT tk.sums (wi tops) t = true))
    ⟨But.refl _ _, _, none, none, none, rfl, hA5, by simp, fun m hm => by simp at hm⟩ (fun i σ H' _ p => .of (p.1 _ _ nOA hO6)) (fun i xv σ H7 H7' hi p y => ?_) (fun σ H' p => ?_)
  · obtain ⟨b7, ys, y3, y4, y5, rfl, hA7, lys, hdone⟩ := p
    obtain ⟨rfl, ex⟩ := y
    rw [List.getElem?_map] at ex
    obtain ⟨m0, em, rfl⟩ := Option.map_eq_some_iff.mp ex
    have hm0 : m0 < us.length := ordK_mem.mp (List.mem_of_getElem? em)
    have ej := List.getElem?_eq_getElem hm0
    obtain ⟨⟨tk, wa⟩, ep, ta, sa, tr, pa, wvs, eu, q1, _, _, _, q5, q6, _⟩ := A2.at hAt5 ej
    rw [eu] at ej
    dsimp only at q1 q5 q6
    have mt : tk ∈ tks := by rw [← eps]; exact List.mem_map.mpr ⟨_, List.mem_of_getElem? ep, rfl⟩
    have etk : tks[m0]? = some tk := by rw [← eps, List.getElem?_map, ep]; rfl
    obtain ⟨g1, g2, g3, _⟩ := hG tk mt
    have t7 := butTL b7 hA5
    have hw7 := b7 _ _ (nAw _ (List.mem_of_getElem? ep)) q5
    have hS7 := b7 _ _ nAS hS5
    have hl7 := b7 _ _ nAL hl5
    refine ⟨_, rfl, _, rfl, _, rfl, _, _, _, _, rfl, rfl, .of hl7, atI_nat ej, _, _, _, _, rfl, rfl, tsTup t7 q1, atI_nat (j := 5) rfl, S, wa, ws, wvs, wi tops, tk.sums, rfl, .of hS7, priTS t7 hws5, .of hw7, sumsS t7 q6, wiG tw, by rw [wi_len]; have := tw.2.1; omega, by omega, (by have := wiSize tw; omega), fun s0 hs0 => ⟨by rw [wi_len]; exact (g1 s0 hs0).1, fun n hn => Wd.mono ((g1 s0 hs0).2.2 n hn) (by decide)⟩, fun H8 R8 tv fv s8 e8 f8 => ?_⟩
    refine ⟨_, _, rfl, .of e8, rfl, _, _, rfl, _, _, rfl, rfl, ?_⟩
    have b8 := b7.trans (butOf s8)
    have hA8 := s8 _ _ hA7
    refine ⟨_, rfl, rfl, _, rfl, ?_⟩
    rcases f8 with ⟨rfl, t1, ht1, hn1, i1⟩ | ⟨rfl, fa, fs, rfl, g1', g2', g3', g4'⟩
    · rw [decide_eq_false hn1]
      refine iteF ?_
      have hmy : m0 < ys.length := by omega
      refine ⟨_, rfl, _, rfl, _, rfl, A, _, _, m0, rfl, rfl, hA8, ?_, ?_⟩
      · unfold ixN
        rw [if_pos (by omega), if_pos (by omega)]
        simp
      have tU : TS H8 (upd H8 A (.lst (ys.set m0 tv))) := tsLst hA8
      refine ⟨butMut b8, ys.set m0 tv, _, _, _, rfl, upd_same, by rw [List.length_set]; exact lys, fun m hm => ?_⟩
      by_cases hmm : m = m0
      · subst hmm
        exact ⟨tv, tk, t1, by rw [List.getElem?_set_self hmy], etk, trTS tU ht1, i1⟩
      · have hm' : m ∈ (ordK us.length kf).take i := by
          rw [List.take_succ, em] at hm
          rcases List.mem_append.mp hm with h | h
          · exact h
          · exact absurd (by simpa using h) hmm
        obtain ⟨tv', tk', t', z1, z2, z3, z4⟩ := hdone m hm'
        exact ⟨tv', tk', t', by rw [List.getElem?_set_ne (Ne.symm hmm)]; exact z1, z2, trTS (TS.trans (tsOf s8) tU) z3, z4⟩
    · refine iteT ⟨_, rfl, _, rfl, by show 3 ≤ sizeLine; decide, fun U nU => ?_⟩
      have sU := sameNew (o := .tup [.str "broken", .int (m0 : Int), .ref fa]) nU
      have bU := b8.trans (butOf sU)
      refine q U _ (.broken (m0 : Int) fs) (extB bU) (tabB hA5 bU) ⟨fa, .of upd_same, newB b7 g1', sU _ _ g2'⟩ ⟨m0, tk, rfl, etk, g3', g4', fun m tm em' hlt => ?_⟩
      have hm : m < us.length := by
        have := (List.getElem?_eq_some_iff.mp em').1
        omega
      have k1 : kf m = (tm.many : Int) := by rw [hkf]; simp [em']
      have k2 : kf m0 = (tk.many : Int) := by rw [hkf]; simp [etk]
      obtain ⟨tv', tk', t', z1, z2, z3, z4⟩ := hdone m (ordK_ahead em hm (by omega))
      rw [em'] at z2
      cases z2
      exact ⟨t', z4⟩
  · obtain ⟨b7, ys, y3, y4, y5, rfl, hA7, lys, hdone⟩ := p
    rw [List.length_map, List.take_length] at hdone
    obtain ⟨ts, hts, hall⟩ := chooseAll (R := TrIn K H') (P := fun i t => ∃ tk, tks[i]? = some tk ∧ isT tk.sums (wi tops) t = true) (ys := ys) (k := 0) fun j y e => by
      have hj : j < us.length := by
        have := (List.getElem?_eq_some_iff.mp e).1
        omega
      obtain ⟨tv', tk', t', z1, z2, z3, z4⟩ := hdone j (ordK_mem.mpr hj)
      rw [e] at z1
      cases z1
      exact ⟨t', z3, tk', by rw [Nat.zero_add]; exact z2, z4⟩
    refine ⟨_, rfl, by show 2 ≤ sizeLine; decide, fun U nU => ?_⟩
    have sU := sameNew (o := .tup [.str "kept", .ref A]) nU
    have bU := b7.trans (butOf sU)
    refine q U _ (.kept ts) (extB bU) (tabB hA5 bU) ⟨A, ys, .of upd_same, .of nA0', sU _ _ hA7, trsTS (tsOf sU) hts⟩ ⟨?_, fun i t e => ?_⟩
    · rw [← hts.len, lys, ltk]
    · have := hall i t e
      rwa [Nat.zero_add] at this

end

end LW

namespace LW
open PySem PySem.Spec PyProof.Rows L2
local macro_rules | `(tactic| walk_at "go1") => `(tactic| first
  | refine ⟨_, rfl, ?_⟩
  | refine ⟨_, _, rfl, rfl, ?_⟩
  | refine ⟨show (0 : Int) < _ from by omega, ?_⟩
  | refine ⟨show CMul _ _ from by first | exact .inl ⟨by omega, by omega⟩ | exact .inr ⟨by omega, by omega⟩, ?_⟩
  | refine ⟨show CDiv _ _ from ⟨by omega, by omega⟩, ?_⟩)
local macro_rules | `(tactic| walk_at "go") => `(tactic| repeat walk_at "go1")

section
variable {P : Program} {w : World} {K : PySem.W.Frag} {mg : Str → Option Value} {base : Heap}

abbrev s__law_at : Stmt := topS 57
theorem sc__law_at : FnScope ["_law_script", "_law_k", "_law_cell"] ["_law_script", "_law_k"] (defScope s__law_at) := ⟨rfl, rfl, rfl, by decide +kernel, rfl, by decide +kernel, by decide +kernel⟩

def spAt (K : PySem.W.Frag) : Sp := fun vs H Q _ => ∃ (a : Addr) (ns : List Int) (k : Int), vs = [.ref a, .int k] ∧ SqL K H a (ns.map V.int) ∧ ns.length ≤ 63 ∧ 0 ≤ k ∧ k ≤ 1000000000 ∧ ∀ i : Int, 0 ≤ i → i < 1000003 → Q (.int i) H
theorem ok__law_at {f : Addr} {fd : FuncData} {k : Nat} (F : Fun K "_law_at" "_law_at" s__law_at f fd) (B : Bl mg) : FnOk P w K mg base CX0 (k + 1) f fd ["_law_script", "_law_k"] (spAt K) := by
  refine F.ok sc__law_at (fun vs H Q E h => ?_) (fun cdv A outer s H vs Q E hr h => ?_)
  · obtain ⟨a, ns, k, rfl, _⟩ := h
    rfl
  obtain ⟨a, ns, k, rfl, hS, h63, k0, k1, q⟩ := h
  refine ⟨_, (pss_cons (ps_set (i := 2) sc__law_at.nd rfl (.inl rfl) pe_int)
    (pss_cons (ps_if (pt_cmpR op_gt (pe_callB (kLen (K := K) rfl) (by rfl) B.len PySem.boot_len (pa_cons (pv 0) pa_nil)) pe_int (nomark _))
      (pss_one (ps_set (i := 2) sc__law_at.nd rfl (.inl rfl) (pe_ix (kIxL (K := K) rfl) (pv 0) (pe_op op_mod (pv 1) (pe_callB (kLen (K := K) rfl) (by rfl) B.len PySem.boot_len (pa_cons (pv 0) pa_nil))) (fun _ _ => rfl))))
      pss_nil)
    (pss_one (ps_ret (pe_op op_mod (pe_op op_mul (pe_op op_add (pv 2) (pe_op op_mul pe_int (pv 1))) pe_int) pe_int))))), ?_⟩
  walk_at "go"
  refine ⟨_, _, rfl, .inl hS, ?_⟩
  walk_at "go"
  have lm : (ns.map V.int).length = ns.length := List.length_map _
  refine ite2 (fun c => ?_) (fun c => ?_)
  · have c' : (0 : Int) < ((ns.map V.int).length : Int) := of_decide_eq_true c
    walk_at "go"
    refine ⟨_, _, rfl, .inl hS, ?_⟩
    walk_at "go"
    have hm0 : 0 ≤ k % ((ns.map V.int).length : Int) := Int.emod_nonneg _ (by omega)
    have hm1 : k % ((ns.map V.int).length : Int) < ((ns.map V.int).length : Int) := Int.emod_lt_of_pos _ c'
    obtain ⟨j, hj⟩ : ∃ j : Nat, k % ((ns.map V.int).length : Int) = (j : Int) := ⟨(k % ((ns.map V.int).length : Int)).toNat, by omega⟩
    have hjl : j < ns.length := by omega
    refine ⟨_, _, _, .int ns[j], rfl, rfl, hS, ?_, ?_⟩
    · rw [hj]
      exact atI_nat (by rw [List.getElem?_map, List.getElem?_eq_getElem hjl]; rfl)
    walk_at "go"
    exact q _ (Int.emod_nonneg _ (by decide)) (Int.emod_lt_of_pos _ (by decide))
  · walk_at "go"
    exact q _ (Int.emod_nonneg _ (by decide)) (Int.emod_lt_of_pos _ (by decide))

theorem atMem {xs : List Int} {i : Int} (h0 : 0 ≤ i) (h1 : i < xs.length) : ∃ v, atI (xs.map V.int) i = some (.int v) ∧ v ∈ xs := by
  obtain ⟨j, rfl⟩ : ∃ j : Nat, i = (j : Int) := ⟨i.toNat, by omega⟩
  have hj : j < xs.length := by omega
  exact ⟨xs[j], atI_nat (intAt hj), List.getElem_mem _⟩
abbrev s__law_tops : Stmt := topS 60
theorem sc__law_tops : FnScope ["_law_script", "_law_cell", "_law_many", "_law_most", "_law_found", "_law_k"] ["_law_script"] (defScope s__law_tops) := ⟨rfl, rfl, rfl, by decide +kernel, rfl, by decide +kernel, by decide +kernel⟩

def spTopsG (K : PySem.W.Frag) : Sp := fun vs H Q _ => ∃ (a : Addr) (ns : List Int), vs = [.ref a] ∧ SqL K H a (ns.map V.int) ∧ ns.length ≤ 63 ∧ ∀ (p : Addr) (H' : Hp) (tops : List Int), H p = none → Same H H' → H' p = some (.lst (tops.map V.int)) → TopsW tops → Q (.ref p) H'
theorem ok__law_tops {f : Addr} {fd : FuncData} {k : Nat} (F : Fun K "_law_tops" "_law_tops" s__law_tops f fd) (B : Bl mg) (c__law_at : C8.Cal P w K mg base k "_law_at" (spAt K) []) : FnOk P w K mg base CX0 (k + 1) f fd ["_law_script"] (spTopsG K) := by
  refine F.ok sc__law_tops (fun vs H Q E h => ?_) (fun cdv A outer s H vs Q E hr h => ?_)
  · obtain ⟨a, ns, rfl, _⟩ := h
    rfl
  obtain ⟨a, ns, rfl, hS, h63, q⟩ := h
  refine ⟨_, (pss_cons (ps_set (i := 1) sc__law_tops.nd rfl (.inl rfl) (C8.pe_c c__law_at hr (Nat.le_refl _) (by rfl) (pa_cons (pv 0) (pa_cons pe_int pa_nil))))
    (pss_cons (ps_set (i := 2) sc__law_tops.nd rfl (.inl rfl) (pe_ix (kIxL (K := K) rfl) (pe_lst (pa_cons pe_int (pa_cons pe_int (pa_cons pe_int (pa_cons pe_int pa_nil))))) (pe_op op_mod (pv 1) pe_int) (fun _ _ => rfl)))
    (pss_cons (ps_set (i := 3) sc__law_tops.nd rfl (.inr rfl) (pe_ix (kIxL (K := K) rfl) (pe_lst (pa_cons pe_int (pa_cons pe_int (pa_cons pe_int pa_nil)))) (pe_op op_sub (pv 2) pe_int) (fun _ _ => rfl)))
    (pss_cons (ps_setLc (i := 4) (own := [("_law_k", 5)]) rfl sc__law_tops.nd rfl rfl (sw_true rfl rfl rfl (by decide +kernel)) (pi_range1 (by rfl) B.range (pa_cons (pv 2) pa_nil)) (blkOk_by (own := [("_law_k", 5)]) (N := ["_law_script", "_law_cell", "_law_many", "_law_most", "_law_found", "_law_k"]) (sc := defScope s__law_tops) (by decide +kernel)) (fun _ _ _ _ _ => (pgN (i := 5) sc__law_tops.nd rfl (.inl rfl) (.inr rfl))) (fun _ _ _ _ _ => pts_nil) (fun _ _ _ _ _ => (pe_op op_mod (C8.pe_c c__law_at hr (Nat.le_refl _) (by rfl) (pa_cons (pv 0) (pa_cons (pe_op op_add pe_int (pv 5)) pa_nil))) (pv 3))))
    (pss_cons (ps_if (pt_cmpR op_eq (pe_op op_mod (pe_op op_fdiv (pv 1) pe_int) pe_int) pe_int (nomark _))
      (pss_one (ps_asg pe_int (pg_sub (pv 4) (pe_op op_mod (pe_op op_fdiv (pv 1) pe_int) (pv 2)) set_list)))
      pss_nil)
    (pss_one (ps_ret (pv 4)))))))), ?_⟩
  refine ⟨_, rfl, a, ns, 0, rfl, hS, h63, by omega, by omega, fun cell c0 c1 => ?_⟩
  refine ⟨by show 4 ≤ sizeLine; decide, fun L nL => ?_⟩
  obtain ⟨many, em, mm⟩ := atMem (xs := [1, 2, 2, 3]) (i := cell % 4) (by omega) (by show cell % 4 < ((4 : Nat) : Int); omega)
  have m0 : 1 ≤ many ∧ many ≤ 3 := by
    simp at mm
    omega
  have s1 : Same H (upd H L (.lst ([1, 2, 2, 3].map V.int))) := sameNew nL
  refine ⟨_, rfl, _, _, rfl, rfl, (show (0 : Int) < 4 by decide), _, _, _, _, rfl, rfl, .of upd_same, em, ?_⟩
  refine ⟨by show 3 ≤ sizeLine; decide, fun L2 nL2 => ?_⟩
  obtain ⟨most, em2, mm2⟩ := atMem (xs := [10, 4, 3]) (i := many - 1) (by omega) (by show many - 1 < ((3 : Nat) : Int); omega)
  have m1 : 1 ≤ most ∧ most ≤ 10 := by
    simp at mm2
    omega
  have s2 : Same H (upd (upd H L (.lst ([1, 2, 2, 3].map V.int))) L2 (.lst ([10, 4, 3].map V.int))) := Same.trans s1 (sameNew nL2)
  refine ⟨_, rfl, _, _, rfl, rfl, _, _, _, _, rfl, rfl, .of upd_same, em2, ?_⟩
  refine ⟨_, rfl, _, rfl, by omega, by omega, fun D nD => ?_⟩
  refine lc_it walk_range (Made (upd (upd H L (.lst ([1, 2, 2, 3].map V.int))) L2 (.lst ([10, 4, 3].map V.int))) D (RP fun _ i => 0 ≤ i ∧ i ≤ 9)) (made0 nD) (fun _ _ _ _ => trivial) (fun i x H1 H2 hi p y => ?_) (fun H1 p => ?_)
  · obtain ⟨rfl, rfl⟩ := y
    refine ⟨rfl, ?_⟩
    refine lcYes ?_
    refine ⟨_, rfl, _, rfl, _, _, rfl, rfl, a, ns, _, rfl, Same.seq p.same (Same.seq s2 hS), h63, by omega, by omega, fun z z0 z1 => ?_⟩
    refine ⟨_, rfl, _, _, rfl, rfl, (show (0 : Int) < most by omega), ?_⟩
    have e0 : 0 ≤ z % most := Int.emod_nonneg _ (by omega)
    have e1 : z % most < most := Int.emod_lt_of_pos _ (by omega)
    exact p.push nD (stRP _) (by omega) (Same.refl _) ⟨_, rfl, by omega, by omega⟩
  obtain ⟨tops, lt, eD, s3, wt⟩ := madeRP p
  have s4 := Same.trans s2 s3
  have nDH : H D = none := Same.free s2 nD
  have w1 : ∀ t ∈ tops, 0 ≤ t ∧ t ≤ 9 := fun t ht => by
    obtain ⟨j, hj⟩ := List.mem_iff_getElem?.mp ht
    exact wt j t hj
  refine ⟨_, rfl, _, _, rfl, rfl, ⟨(show (0 : Int) < 4 by decide), (show (4 : Int) < 1073741824 by decide)⟩, _, _, rfl, rfl, (show (0 : Int) < 16 by decide), rfl, _, rfl, ?_⟩
  refine yesDec (fun c => ?_) (fun c => ?_)
  · refine ⟨_, rfl, _, rfl, _, _, rfl, rfl, ⟨(show (0 : Int) < 64 by decide), (show (64 : Int) < 1073741824 by decide)⟩, _, rfl, _, _, rfl, rfl, (show (0 : Int) < many by omega), ?_⟩
    have e0 : 0 ≤ cell / 64 % many := Int.emod_nonneg _ (by omega)
    have e1 : cell / 64 % many < many := Int.emod_lt_of_pos _ (by omega)
    refine ⟨D, _, _, (cell / 64 % many).toNat, rfl, rfl, eD, ?_, ?_⟩
    · unfold ixN
      rw [if_pos e0, if_pos (by simp; omega)]
    refine ⟨_, rfl, q D _ (tops.set (cell / 64 % many).toNat 9) nDH (sameMut s4 nDH) ?_ ⟨by simp; omega, by simp; omega, fun t ht => ?_⟩⟩
    · rw [upd_same, List.map_set]
    · rcases List.mem_or_eq_of_mem_set ht with h | h
      · exact w1 t h
      · omega
  · exact ⟨_, rfl, q D _ tops nDH s4 eD ⟨by omega, by omega, w1⟩⟩
abbrev s__law_unit : Stmt := topS 61
theorem sc__law_unit : FnScope ["_law_many", "_law_box", "_law_number", "_law_more", "_law_numbers"] ["_law_many", "_law_box", "_law_number", "_law_more"] (defScope s__law_unit) := ⟨rfl, rfl, rfl, by decide +kernel, rfl, by decide +kernel, by decide +kernel⟩

def unitOf (many : Nat) (box : Nat) (number more : Int) : Sm := ((List.replicate many 0).set box number, more)
def spUnit (K : PySem.W.Frag) : Sp := fun vs H Q _ => ∃ (many : Nat) (bi number more : Int), vs = [.int (many : Int), .int bi, .int number, .int more] ∧ 0 ≤ bi ∧ bi < many ∧ many ≤ 3 ∧ ∀ H' v, Same H H' → SumIn K H' v (unitOf many bi.toNat number more) → Q v H'
theorem unitW {many box : Nat} {number more : Int} (h : -9 ≤ number ∧ number ≤ 9) (h' : -99 ≤ more ∧ more ≤ 99) : SumW many (unitOf many box number more) := by
  refine ⟨by simp [unitOf], fun n hn => ?_, h'.1, h'.2⟩
  rcases List.mem_or_eq_of_mem_set hn with h2 | h2
  · have := List.eq_of_mem_replicate h2
    omega
  · omega
theorem ok__law_unit {f : Addr} {fd : FuncData} {k : Nat} (F : Fun K "_law_unit" "_law_unit" s__law_unit f fd) (B : Bl mg) : FnOk P w K mg base CX0 (k + 1) f fd ["_law_many", "_law_box", "_law_number", "_law_more"] (spUnit K) := by
  refine F.ok sc__law_unit (fun vs H Q E h => ?_) (fun cdv A outer s H vs Q E hr h => ?_)
  · obtain ⟨many, bi, number, more, rfl, _⟩ := h
    rfl
  obtain ⟨many, bi, number, more, rfl, hb0, hb, hm, q⟩ := h
  refine ⟨_, (pss_cons (ps_set (i := 4) sc__law_unit.nd rfl (.inl rfl) (pe_op op_rep (pe_lst (pa_cons pe_int pa_nil)) (pv 0)))
    (pss_cons (ps_asg (pv 2) (pg_sub (pv 4) (pv 1) set_list))
    (pss_one (ps_ret (pe_tup (pa_cons (pe_callTy (kTup (K := K) rfl) (by rfl) B.tuple (by decide +kernel) (pa_cons (pv 4) pa_nil)) (pa_cons (pv 3) pa_nil))))))), ?_⟩
  have szl : (1000 : Nat) ≤ sizeLine := by decide
  refine ⟨by show 1 ≤ sizeLine; decide, fun L nL => ?_⟩
  refine ⟨_, rfl, _, _, _, rfl, rfl, upd_same, by omega, by omega, by simp; omega, fun D nD => ?_⟩
  have s1 : Same H (upd H L (.lst [.int 0])) := sameNew nL
  have nDH : H D = none := Same.free s1 nD
  have e1 : (List.replicate ((many : Int)).toNat [V.int 0]).flatten = (List.replicate many (0 : Int)).map V.int := by simp [List.map_replicate]
  rw [e1]
  refine ⟨_, rfl, _, rfl, _, rfl, D, _, _, bi.toNat, rfl, rfl, upd_same, ?_, ?_⟩
  · unfold ixN
    rw [if_pos hb0, if_pos (by simp; omega)]
  have s2 : Same H (upd (upd (upd H L (.lst [.int 0])) D (.lst ((List.replicate many (0 : Int)).map V.int))) D (.lst (((List.replicate many (0 : Int)).map V.int).set bi.toNat (.int number)))) := sameMut (Same.trans s1 (sameNew nD)) nDH
  refine ⟨_, rfl, _, _, rfl, .inl ⟨.of upd_same, fun T nT => ⟨_, rfl, by show 2 ≤ sizeLine; decide, fun U nU => ?_⟩⟩⟩
  refine q _ _ (Same.trans s2 (Same.trans (sameNew nT) (sameNew nU))) ⟨U, T, rfl, .of upd_same, tupS (sameNew nU) (.of ?_)⟩
  rw [upd_same]
  simp [unitOf, List.map_set]

end

end LW

namespace LW
open PySem PySem.Spec PyProof.Rows L2
local macro_rules | `(tactic| walk_at "go1") => `(tactic| first
  | refine ⟨_, rfl, ?_⟩
  | refine ⟨_, _, rfl, rfl, ?_⟩
  | refine ⟨show (0 : Int) < _ from by omega, ?_⟩
  | refine ⟨show CMul _ _ from by first | exact .inl ⟨by omega, by omega⟩ | exact .inr ⟨by omega, by omega⟩, ?_⟩
  | refine ⟨show CDiv _ _ from ⟨by omega, by omega⟩, ?_⟩)
local macro_rules | `(tactic| walk_at "go") => `(tactic| repeat walk_at "go1")

section
variable {P : Program} {w : World} {K : PySem.W.Frag} {mg : Str → Option Value} {base : Heap}

abbrev s__law_word : Stmt := topS 62
theorem sc__law_word : FnScope ["_law_cell", "_law_many", "_law_way", "_law_box", "_law_more", "_law_numbers", "_law_k"] ["_law_cell", "_law_many"] (defScope s__law_word) := ⟨rfl, rfl, rfl, by decide +kernel, rfl, by decide +kernel, by decide +kernel⟩

def spWord (K : PySem.W.Frag) : Sp := fun vs H Q _ => ∃ (cell : Int) (many : Nat), vs = [.int cell, .int (many : Int)] ∧ 0 ≤ cell ∧ 1 ≤ many ∧ many ≤ 3 ∧ ∀ H' v s, Same H H' → SumIn K H' v s → SumW many s → Q v H'
theorem ok__law_word {f : Addr} {fd : FuncData} {k : Nat} (F : Fun K "_law_word" "_law_word" s__law_word f fd) (B : Bl mg) (c__law_unit : C8.Cal P w K mg base k "_law_unit" (spUnit K) []) : FnOk P w K mg base CX0 (k + 1) f fd ["_law_cell", "_law_many"] (spWord K) := by
  refine F.ok sc__law_word (fun vs H Q E h => ?_) (fun cdv A outer s H vs Q E hr h => ?_)
  · obtain ⟨cell, many, rfl, _⟩ := h
    rfl
  obtain ⟨cell, many, rfl, c0, hm1, hm, q⟩ := h
  refine ⟨_, (pss_cons (ps_set (i := 2) sc__law_word.nd rfl (.inl rfl) (pe_op op_mod (pv 0) pe_int))
    (pss_cons (ps_set (i := 3) sc__law_word.nd rfl (.inl rfl) (pe_op op_mod (pe_op op_fdiv (pv 0) pe_int) (pv 1)))
    (pss_cons (ps_set (i := 4) sc__law_word.nd rfl (.inl rfl) (pe_op op_mod (pe_op op_fdiv (pv 0) pe_int) pe_int))
    (pss_cons (ps_if (pt_cmpR op_lt (pv 2) pe_int (nomark _))
      (pss_one (ps_ret (C8.pe_c c__law_unit hr (Nat.le_refl _) (by rfl) (pa_cons (pv 1) (pa_cons (pv 3) (pa_cons pe_int (pa_cons (pe_un un_neg (pv 4)) pa_nil)))))))
      pss_nil)
    (pss_cons (ps_if (pt_cmpR op_lt (pv 2) pe_int (nomark _))
      (pss_one (ps_ret (C8.pe_c c__law_unit hr (Nat.le_refl _) (by rfl) (pa_cons (pv 1) (pa_cons (pv 3) (pa_cons (pe_un un_neg pe_int) (pa_cons (pv 4) pa_nil)))))))
      pss_nil)
    (C8.pss_cut (ps_if (PW.pt (pw_and (pt_cmpR op_eq (pv 2) pe_int (nomark _)) (pw_and1 (pt_cmpR op_gt (pv 1) pe_int (nomark _)))))
      (pss_cons (ps_set (i := 5) sc__law_word.nd rfl (.inl rfl) (pe_callTy (kList (K := K) rfl) (by rfl) B.list (by decide +kernel) (pa_cons (pe_ix (kIxT (K := K) rfl) (C8.pe_c c__law_unit hr (Nat.le_refl _) (by rfl) (pa_cons (pv 1) (pa_cons (pv 3) (pa_cons pe_int (pa_cons pe_int pa_nil))))) pe_int (fun _ _ => rfl)) pa_nil)))
      (pss_cons (ps_asg (pe_un un_neg pe_int) (pg_sub (pv 5) (pe_op op_mod (pe_op op_add (pv 3) pe_int) (pv 1)) set_list))
      (pss_one (ps_ret (pe_tup (pa_cons (pe_callTy (kTup (K := K) rfl) (by rfl) B.tuple (by decide +kernel) (pa_cons (pv 5) pa_nil)) (pa_cons (pe_op op_sub (pe_op op_mod (pe_op op_fdiv (pv 0) pe_int) pe_int) pe_int) pa_nil)))))))
      pss_nil)
    (pss_cons (ps_if (pt_cmpR op_gt (pe_op op_mod (pe_op op_fdiv (pv 0) pe_int) pe_int) pe_int (nomark _))
      (pss_one (ps_ret (pe_tup (pa_cons (pe_callTy (kTup (K := K) rfl) (by rfl) B.tuple (by decide +kernel) (pa_cons (pe_lc (own := [("_law_k", 6)]) rfl sc__law_word.nd (pi_range1 (by rfl) B.range (pa_cons (pv 1) pa_nil)) (blkOk_by (own := [("_law_k", 6)]) (N := ["_law_cell", "_law_many", "_law_way", "_law_box", "_law_more", "_law_numbers", "_law_k"]) (sc := defScope s__law_word) (by decide +kernel)) (fun _ _ _ _ _ => (pgN (i := 6) sc__law_word.nd rfl (.inl rfl) (.inr rfl))) (fun _ _ _ _ _ => pts_nil) (fun _ _ _ _ _ => (pe_op op_sub (pe_op op_mod (pe_op op_fdiv (pv 0) (pe_ix (kIxL (K := K) rfl) (pe_lst (pa_cons pe_int (pa_cons pe_int (pa_cons pe_int pa_nil)))) (pv 6) (fun _ _ => rfl))) pe_int) pe_int))) pa_nil)) (pa_cons (pe_op op_sub (pe_op op_mod (pe_op op_fdiv (pv 0) pe_int) pe_int) pe_int) pa_nil)))))
      pss_nil)
    (pss_one (ps_ret (pe_tup (pa_cons (pe_callTy (kTup (K := K) rfl) (by rfl) B.tuple (by decide +kernel) (pa_cons (pe_lc (own := [("_law_k", 6)]) rfl sc__law_word.nd (pi_range1 (by rfl) B.range (pa_cons (pv 1) pa_nil)) (blkOk_by (own := [("_law_k", 6)]) (N := ["_law_cell", "_law_many", "_law_way", "_law_box", "_law_more", "_law_numbers", "_law_k"]) (sc := defScope s__law_word) (by decide +kernel)) (fun _ _ _ _ _ => (pgN (i := 6) sc__law_word.nd rfl (.inl rfl) (.inr rfl))) (fun _ _ _ _ _ => pts_nil) (fun _ _ _ _ _ => (pe_op op_sub (pe_op op_mod (pe_op op_fdiv (pv 0) (pe_ix (kIxL (K := K) rfl) (pe_lst (pa_cons pe_int (pa_cons pe_int (pa_cons pe_int pa_nil)))) (pv 6) (fun _ _ => rfl))) pe_int) pe_int))) pa_nil)) (pa_cons (pe_op op_sub (pe_op op_mod (pe_op op_fdiv (pv 0) pe_int) pe_int) pe_int) pa_nil)))))))))))), ?_⟩
  have b0 : 0 ≤ cell / 6 % (many : Int) := Int.emod_nonneg _ (by omega)
  have b1 : cell / 6 % (many : Int) < many := Int.emod_lt_of_pos _ (by omega)
  have d0 : ∀ z : Int, CDiv z 6 ∧ CDiv z 18 ∧ CDiv z 90 ∧ CDiv z 2250 ∧ CDiv z 7 ∧ CDiv z 450 ∧ CDiv z 342 ∧ CDiv z 6498 := fun z => ⟨⟨by decide, by decide⟩, ⟨by decide, by decide⟩, ⟨by decide, by decide⟩, ⟨by decide, by decide⟩, ⟨by decide, by decide⟩, ⟨by decide, by decide⟩, ⟨by decide, by decide⟩, ⟨by decide, by decide⟩⟩
  refine ⟨_, rfl, _, _, rfl, rfl, (show (0 : Int) < 6 by decide), ?_⟩
  refine ⟨_, rfl, _, _, rfl, rfl, (d0 _).1, _, rfl, _, _, rfl, rfl, (show (0 : Int) < (many : Int) by omega), ?_⟩
  refine ⟨_, rfl, _, _, rfl, rfl, (d0 _).2.1, _, _, rfl, rfl, (show (0 : Int) < 5 by decide), ?_⟩
  have u0 : 0 ≤ cell / 18 % 5 := by omega
  have u1 : cell / 18 % 5 < 5 := by omega
  refine ⟨_, rfl, _, _, rfl, rfl, _, rfl, ?_⟩
  refine yesDec (fun c => ?_) (fun c => ?_)
  · exact ⟨_, rfl, _, rfl, _, rfl, _, rfl, many, _, 1, _, rfl, b0, b1, hm, fun H' v sm hs => q H' v _ sm hs (unitW (by omega) (by omega))⟩
  refine ⟨_, rfl, _, _, rfl, rfl, _, rfl, ?_⟩
  refine yesDec (fun c => ?_) (fun c => ?_)
  · exact ⟨_, rfl, _, rfl, _, rfl, _, rfl, many, _, -1, _, rfl, b0, b1, hm, fun H' v sm hs => q H' v _ sm hs (unitW (by omega) (by omega))⟩
  refine ⟨fun σ' H' => H' = H ∧ σ' = [some (.int cell), some (.int (many : Int)), some (.int (cell % 6)), some (.int (cell / 6 % (many : Int))), some (.int (cell / 18 % 5)), none, none], ?_, ?_⟩
  · refine ⟨_, rfl, rfl, _, rfl, ?_⟩
    refine yesDec (fun c => ?_) (fun c => ?_)
    · refine ⟨_, rfl, _, _, rfl, rfl, _, rfl, ?_⟩
      refine yesDec (fun c2 => ?_) (fun c2 => ?_)
      · refine ⟨_, rfl, _, rfl, many, _, 1, 0, rfl, b0, b1, hm, fun H1 v s1 hs => ?_⟩
        obtain ⟨U, T, rfl, o1, o2⟩ := hs
        refine ⟨_, _, _, _, rfl, rfl, o1, atI_nat (j := 0) rfl, _, _, rfl, .inr o2, fun L nL => ?_⟩
        have nLH : H L = none := Same.free s1 nL
        have g0 : 0 ≤ (cell / 6 % (many : Int) + 1) % (many : Int) := Int.emod_nonneg _ (by omega)
        have g1 : (cell / 6 % (many : Int) + 1) % (many : Int) < many := Int.emod_lt_of_pos _ (by omega)
        refine ⟨_, rfl, _, rfl, _, rfl, _, _, rfl, rfl, _, rfl, _, _, rfl, rfl, (show (0 : Int) < (many : Int) by omega), L, _, _, ((cell / 6 % (many : Int) + 1) % (many : Int)).toNat, rfl, rfl, upd_same, ?_, ?_⟩
        · have hlen : ((unitOf many (cell / 6 % (many : Int)).toNat 1 0).1.map V.int).length = many := by simp [unitOf]
          unfold ixN
          rw [hlen, if_pos g0, if_pos g1]
        refine ⟨_, rfl, _, _, rfl, .inl ⟨.of upd_same, fun T2 nT2 => ⟨_, rfl, _, _, rfl, rfl, (d0 _).2.2.1, _, _, rfl, rfl, (show (0 : Int) < 5 by decide), _, _, rfl, rfl, by show 2 ≤ sizeLine; decide, fun U2 nU2 => ?_⟩⟩⟩
        refine q _ _ ((unitOf many (cell / 6 % (many : Int)).toNat 1 0).1.set ((cell / 6 % (many : Int) + 1) % (many : Int)).toNat (-1), cell / 90 % 5 - 2) (Same.trans (sameMut (Same.trans s1 (sameNew nL)) nLH) (Same.trans (sameNew nT2) (sameNew nU2))) ⟨U2, T2, rfl, .of upd_same, tupS (sameNew nU2) (.of ?_)⟩ ⟨by simp [unitOf], fun n hn => ?_, by omega, by omega⟩
        · rw [upd_same, List.map_set]
        · rcases List.mem_or_eq_of_mem_set hn with h2 | h2
          · exact (unitW (many := many) (box := (cell / 6 % (many : Int)).toNat) (number := 1) (more := 0) (by omega) (by omega)).2.1 n h2
          · omega
      · exact ⟨rfl, rfl⟩
    · exact ⟨rfl, rfl⟩
  · rintro σ' H' ⟨rfl, rfl⟩
    have szl : (1000 : Nat) ≤ sizeLine := by decide
    refine ⟨_, rfl, _, _, rfl, rfl, (d0 _).2.2.1, _, _, rfl, rfl, (show (0 : Int) < 4 by decide), _, _, rfl, rfl, _, rfl, ?_⟩
    refine yesDec (fun c3 => ?_) (fun c3 => ?_)
    · refine ⟨_, rfl, _, rfl, by omega, by omega, fun D nD => ?_⟩
      refine lc_it walk_range (Made H' D (RP fun _ i => -9 ≤ i ∧ i ≤ 9)) (made0 nD) (fun _ _ _ _ => trivial) (fun i x H1 H2 hi p y => ?_) (fun H1 p => ?_)
      · obtain ⟨rfl, rfl⟩ := y
        refine ⟨rfl, ?_⟩
        refine lcYes ?_
        obtain ⟨z, ez, mz⟩ := atMem (xs := [18, 90, 450]) (i := 0 + (i : Int)) (by omega) (by show 0 + (i : Int) < ((3 : Nat) : Int); omega)
        have hz : 18 ≤ z ∧ z ≤ 450 := by
          simp at mz
          omega
        refine ⟨_, rfl, by show 3 ≤ sizeLine; decide, fun L nL => ⟨_, rfl, _, _, _, _, rfl, rfl, .of upd_same, ez, _, _, rfl, rfl, ⟨by omega, by omega⟩, _, _, rfl, rfl, (show (0 : Int) < 5 by decide), _, _, rfl, rfl, ?_⟩⟩
        exact p.push nD (stRP _) (by omega) (sameNew nL) ⟨_, rfl, by omega, by omega⟩
      · obtain ⟨ns, ln, eD, s3, wn⟩ := madeRP p
        refine ⟨_, _, rfl, .inl ⟨.of eD, fun T nT => ⟨_, rfl, _, _, rfl, rfl, (d0 _).2.2.2.1, _, _, rfl, rfl, (show (0 : Int) < 13 by decide), _, _, rfl, rfl, by show 2 ≤ sizeLine; decide, fun U nU => ?_⟩⟩⟩
        refine q _ _ (ns, cell / 2250 % 13 - 6) (Same.trans s3 (Same.trans (sameNew nT) (sameNew nU))) ⟨U, T, rfl, .of upd_same, tupS (sameNew nU) (.of upd_same)⟩ ⟨by show ns.length = many; omega, fun n hn => ?_, by show -99 ≤ cell / 2250 % 13 - 6; omega, by show cell / 2250 % 13 - 6 ≤ 99; omega⟩
        obtain ⟨j, hj⟩ := List.mem_iff_getElem?.mp hn
        exact wn j n hj
    · refine ⟨_, rfl, _, rfl, by omega, by omega, fun D nD => ?_⟩
      refine lc_it walk_range (Made H' D (RP fun _ i => -9 ≤ i ∧ i ≤ 9)) (made0 nD) (fun _ _ _ _ => trivial) (fun i x H1 H2 hi p y => ?_) (fun H1 p => ?_)
      · obtain ⟨rfl, rfl⟩ := y
        refine ⟨rfl, ?_⟩
        refine lcYes ?_
        obtain ⟨z, ez, mz⟩ := atMem (xs := [18, 342, 6498]) (i := 0 + (i : Int)) (by omega) (by show 0 + (i : Int) < ((3 : Nat) : Int); omega)
        have hz : 18 ≤ z ∧ z ≤ 6498 := by
          simp at mz
          omega
        refine ⟨_, rfl, by show 3 ≤ sizeLine; decide, fun L nL => ⟨_, rfl, _, _, _, _, rfl, rfl, .of upd_same, ez, _, _, rfl, rfl, ⟨by omega, by omega⟩, _, _, rfl, rfl, (show (0 : Int) < 19 by decide), _, _, rfl, rfl, ?_⟩⟩
        exact p.push nD (stRP _) (by omega) (sameNew nL) ⟨_, rfl, by omega, by omega⟩
      · obtain ⟨ns, ln, eD, s3, wn⟩ := madeRP p
        refine ⟨_, _, rfl, .inl ⟨.of eD, fun T nT => ⟨_, rfl, _, _, rfl, rfl, (d0 _).2.2.2.2.1, _, _, rfl, rfl, (show (0 : Int) < 199 by decide), _, _, rfl, rfl, by show 2 ≤ sizeLine; decide, fun U nU => ?_⟩⟩⟩
        refine q _ _ (ns, cell / 7 % 199 - 99) (Same.trans s3 (Same.trans (sameNew nT) (sameNew nU))) ⟨U, T, rfl, .of upd_same, tupS (sameNew nU) (.of upd_same)⟩ ⟨by show ns.length = many; omega, fun n hn => ?_, by show -99 ≤ cell / 7 % 199 - 99; omega, by show cell / 7 % 199 - 99 ≤ 99; omega⟩
        obtain ⟨j, hj⟩ := List.mem_iff_getElem?.mp hn
        exact wn j n hj
abbrev s__law_into : Stmt := topS 63
theorem sc__law_into : FnScope ["_law_cell", "_law_many", "_law_box", "_law_way"] ["_law_cell", "_law_many", "_law_box"] (defScope s__law_into) := ⟨rfl, rfl, rfl, by decide +kernel, rfl, by decide +kernel, by decide +kernel⟩

def spInto (K : PySem.W.Frag) : Sp := fun vs H Q _ => ∃ (cell : Int) (many : Nat) (box : Int), vs = [.int cell, .int (many : Int), .int box] ∧ 0 ≤ cell ∧ 0 ≤ box ∧ box < many ∧ many ≤ 3 ∧ ∀ H' v s, Same H H' → SumIn K H' v s → SumW many s → Q v H'
theorem ok__law_into {f : Addr} {fd : FuncData} {k : Nat} (F : Fun K "_law_into" "_law_into" s__law_into f fd) (B : Bl mg) (c__law_unit : C8.Cal P w K mg base k "_law_unit" (spUnit K) []) (c__law_word : C8.Cal P w K mg base k "_law_word" (spWord K) []) : FnOk P w K mg base CX0 (k + 1) f fd ["_law_cell", "_law_many", "_law_box"] (spInto K) := by
  refine F.ok sc__law_into (fun vs H Q E h => ?_) (fun cdv A outer s H vs Q E hr h => ?_)
  · obtain ⟨cell, many, box, rfl, _⟩ := h
    rfl
  obtain ⟨cell, many, box, rfl, c0, hb0, hb, hm, q⟩ := h
  refine ⟨_, (pss_cons (ps_set (i := 3) sc__law_into.nd rfl (.inl rfl) (pe_op op_mod (pv 0) pe_int))
    (pss_cons (ps_if (pt_cmpR op_lt (pv 3) pe_int (nomark _))
      (pss_one (ps_ret (C8.pe_c c__law_unit hr (Nat.le_refl _) (by rfl) (pa_cons (pv 1) (pa_cons (pv 2) (pa_cons pe_int (pa_cons (pe_ix (kIxL (K := K) rfl) (pe_lst (pa_cons pe_int (pa_cons pe_int (pa_cons (pe_un un_neg pe_int) pa_nil)))) (pv 3) (fun _ _ => rfl)) pa_nil)))))))
      pss_nil)
    (pss_cons (ps_if (pt_cmpR op_eq (pv 3) pe_int (nomark _))
      (pss_one (ps_ret (C8.pe_c c__law_unit hr (Nat.le_refl _) (by rfl) (pa_cons (pv 1) (pa_cons (pv 2) (pa_cons pe_int (pa_cons (pe_op op_mod (pe_op op_fdiv (pv 0) pe_int) pe_int) pa_nil)))))))
      pss_nil)
    (pss_cons (ps_if (pt_cmpR op_eq (pv 3) pe_int (nomark _))
      (pss_one (ps_ret (C8.pe_c c__law_unit hr (Nat.le_refl _) (by rfl) (pa_cons (pv 1) (pa_cons (pe_op op_mod (pe_op op_fdiv (pv 0) pe_int) (pv 1)) (pa_cons pe_int (pa_cons (pe_op op_sub (pe_op op_mod (pe_op op_fdiv (pv 0) pe_int) pe_int) pe_int) pa_nil)))))))
      pss_nil)
    (pss_one (ps_ret (C8.pe_c c__law_word hr (Nat.le_refl _) (by rfl) (pa_cons (pe_op op_fdiv (pv 0) pe_int) (pa_cons (pv 1) pa_nil))))))))), ?_⟩
  have d7 : ∀ z : Int, CDiv z 7 ∧ CDiv z 21 := fun z => ⟨⟨by decide, by decide⟩, ⟨by decide, by decide⟩⟩
  refine ⟨_, rfl, _, _, rfl, rfl, (show (0 : Int) < 7 by decide), ?_⟩
  refine ⟨_, rfl, _, _, rfl, rfl, _, rfl, ?_⟩
  refine yesDec (fun c => ?_) (fun c => ?_)
  · obtain ⟨z, ez, mz⟩ := atMem (xs := [1, 1, -1]) (i := cell % 7) (by omega) (by show cell % 7 < ((3 : Nat) : Int); omega)
    have hz : -1 ≤ z ∧ z ≤ 1 := by
      simp at mz
      omega
    exact ⟨_, rfl, _, rfl, _, rfl, by show 3 ≤ sizeLine; decide, fun L nL => ⟨_, rfl, _, _, _, _, rfl, rfl, .of upd_same, ez, many, box, 1, z, rfl, hb0, hb, hm, fun H' v sm hs => q H' v _ (Same.trans (sameNew nL) sm) hs (unitW (by omega) (by omega))⟩⟩
  refine ⟨_, rfl, rfl, _, rfl, ?_⟩
  refine yesDec (fun c => ?_) (fun c => ?_)
  · exact ⟨_, rfl, _, rfl, _, rfl, _, _, rfl, rfl, (d7 _).1, _, _, rfl, rfl, (show (0 : Int) < 5 by decide), many, box, 0, _, rfl, hb0, hb, hm, fun H' v sm hs => q H' v _ sm hs (unitW (by omega) (by omega))⟩
  refine ⟨_, rfl, rfl, _, rfl, ?_⟩
  refine yesDec (fun c => ?_) (fun c => ?_)
  · have b0 : 0 ≤ cell / 7 % (many : Int) := Int.emod_nonneg _ (by omega)
    have b1 : cell / 7 % (many : Int) < many := Int.emod_lt_of_pos _ (by omega)
    exact ⟨_, rfl, _, rfl, _, _, rfl, rfl, (d7 _).1, _, rfl, _, _, rfl, rfl, (show (0 : Int) < (many : Int) by omega), _, rfl, _, _, rfl, rfl, (d7 _).2, _, _, rfl, rfl, (show (0 : Int) < 3 by decide), _, _, rfl, rfl, many, _, 1, _, rfl, b0, b1, hm, fun H' v sm hs => q H' v _ sm hs (unitW (by omega) (by omega))⟩
  exact ⟨_, rfl, _, _, rfl, rfl, (d7 _).1, _, rfl, _, many, rfl, by omega, by omega, hm, fun H' v s sm hs hw => q H' v s sm hs hw⟩

end

end LW

namespace LW
open PySem PySem.Spec PyProof.Rows L2
local macro_rules | `(tactic| walk_at "go1") => `(tactic| first
  | refine ⟨_, rfl, ?_⟩
  | refine ⟨_, _, rfl, rfl, ?_⟩
  | refine ⟨show (0 : Int) < _ from by omega, ?_⟩
  | refine ⟨show CMul _ _ from by first | exact .inl ⟨by omega, by omega⟩ | exact .inr ⟨by omega, by omega⟩, ?_⟩
  | refine ⟨show CDiv _ _ from ⟨by omega, by omega⟩, ?_⟩)
local macro_rules | `(tactic| walk_at "go") => `(tactic| repeat walk_at "go1")

section
variable {P : Program} {w : World} {K : PySem.W.Frag} {mg : Str → Option Value} {base : Heap}

def spGRow (K : PySem.W.Frag) (deep : Nat) : Sp := fun vs H Q _ => ∃ (ds sc tp : Addr) (script tops : List Int) (p l : Int), vs = [.ref ds, .int (deep : Int)] ∧ Stt K H ds sc tp script tops p l ∧ 1 ≤ l ∧ 0 ≤ p ∧ p + 2 * l ≤ 60 ∧ l ≤ 30 ∧
  ∀ (H' : Hp) (v : V) (row : D) (p' l' : Int), But ds H H' → Stt K H' ds sc tp script tops p' l' → Din K H' v row → GRow tops.length deep row → ((cntRow deep row : Nat) : Int) ≤ l - l' → -1 ≤ l' → 0 ≤ p' → p' + 2 * l' ≤ p + 2 * l → Q v H'
def spGRows (K : PySem.W.Frag) (i : Nat) : Sp := fun vs H Q _ => ∃ (ds sc tp : Addr) (script tops : List Int) (p l di most : Int), vs = [.ref ds, .int di, .int most] ∧ di + 1 = (i : Int) ∧ 1 ≤ i ∧ Stt K H ds sc tp script tops p l ∧ -1 ≤ l ∧ 0 ≤ p ∧ p + 2 * l ≤ 60 ∧ l ≤ 30 ∧ 0 ≤ most ∧ most ≤ 100 ∧
  ∀ (H' : Hp) (v : V) (rows : List D) (p' l' : Int), But ds H H' → Stt K H' ds sc tp script tops p' l' → Din K H' v (.tup rows) → (∀ d ∈ rows, GRow tops.length (i - 1) d) → ((cnt i (.tup rows) : Nat) : Int) ≤ l - l' → -1 ≤ l' → 0 ≤ p' → p' + 2 * l' ≤ p + 2 * l → Q v H'
abbrev s__law_rows : Stmt := topS 65
theorem sc__law_rows : FnScope ["_law_state", "_law_deep", "_law_most", "_law_rows_here", "_law_k"] ["_law_state", "_law_deep", "_law_most"] (defScope s__law_rows) := ⟨rfl, rfl, rfl, by decide +kernel, rfl, by decide +kernel, by decide +kernel⟩

theorem ok__law_rows {f : Addr} {fd : FuncData} {k deep : Nat} (F : Fun K "_law_rows" "_law_rows" s__law_rows f fd) (B : Bl mg) (c__law_row : C8.Cal P w K mg base k "_law_row" (spGRow K deep) []) : FnOk P w K mg base CX0 (k + 1) f fd ["_law_state", "_law_deep", "_law_most"] (spGRows K (deep + 1)) := by
  refine F.ok sc__law_rows (fun vs H Q E h => ?_) (fun cdv A outer s H vs Q E hr h => ?_)
  · obtain ⟨ds, sc, tp, script, tops, p, l, di, most, rfl, _⟩ := h
    rfl
  obtain ⟨ds, sc, tp, script, tops, p, l, di, most, rfl, hdi, _, St, l0, p0, pl, l30, m0, m1, q⟩ := h
  have edi : di = (deep : Int) := by omega
  subst edi
  refine ⟨_, (pss_cons (ps_set (i := 3) sc__law_rows.nd rfl (.inl rfl) (pe_tup pa_nil))
    (pss_cons (ps_for PassesOwn.never rfl (pi_range1 (by rfl) B.range (pa_cons (pv 2) pa_nil)) (pg_name (i := 4) sc__law_rows.nd rfl (.inl rfl))
      (pss_one (ps_if (pt_cmpR op_gt (pe_dget (hu_of hr) (pv 0) pe_str (fun _ _ => rfl)) pe_int (nomark _))
        (pss_one (ps_set (i := 3) sc__law_rows.nd rfl (.inl rfl) (pe_op (kCatT (K := K) rfl) (pv 3) (pe_tup (pa_cons (C8.pe_c c__law_row hr (Nat.le_refl _) (by rfl) (pa_cons (pv 0) (pa_cons (pv 1) pa_nil))) pa_nil)))))
        pss_nil)))
    (pss_one (ps_ret (pv 3))))), ?_⟩
  refine ⟨by show 0 ≤ sizeLine; decide, fun T nT => ?_⟩
  refine ⟨_, rfl, _, rfl, by omega, by omega, ?_⟩
  refine for_range (lo := 0) (n := most.toNat) (fun i σ H' => ∃ (t : Addr) (vs : List V) (rows : List D) (y4 : Option V) (p' l' : Int), σ = [some (.ref ds), some (.int (deep : Int)), some (.int most), some (.ref t), y4] ∧ But ds H H' ∧ Stt K H' ds sc tp script tops p' l' ∧ SqT K H' t vs ∧ DinA K H' vs rows ∧
      (∀ d ∈ rows, GRow tops.length deep d) ∧ ((cnt (deep + 1) (.tup rows) : Nat) : Int) ≤ l - l' ∧ -1 ≤ l' ∧ 0 ≤ p' ∧ p' + 2 * l' ≤ p + 2 * l ∧ rows.length ≤ i)
    ⟨T, [], [], none, p, l, rfl, butOf (sameNew nT), St.same (sameNew nT), .of upd_same, .nil, fun d hd => by simp at hd, by simp [cnt], l0, p0, Int.le_refl _, Nat.le_refl _⟩ (fun i σ H' hi w => ?_) (fun σ H' w => ?_)
  · obtain ⟨t, vs, rows, y4, p', l', rfl, b, St1, ht, hA, hg, hc, l0', p0', pl', hlen⟩ := w
    refine ⟨_, rfl, ds, _, rfl, St1.gL, _, _, rfl, rfl, _, rfl, ?_⟩
    refine yesDec (fun c => ?_) (fun c => ?_)
    · refine ⟨_, rfl, _, rfl, _, rfl, ds, sc, tp, script, tops, p', l', rfl, St1, by omega, p0', by omega, by omega, fun H2 v row p2 l2 b2 St2 hd2 hg2 hc2 l20 p20 pl2 => ?_⟩
      have hp : ∀ d ∈ rows, d.pure = true := fun d hd => (hg d hd).2.1
      have ts := butTS b2 St1.d
      refine ⟨by show 1 ≤ sizeLine; decide, fun U nU => ?_⟩
      have ht3 := tupS (sameNew (o := .tup [v]) nU) (tsTup ts ht)
      have hA3 := dinASame (sameNew (o := .tup [v]) nU) (dinATS ts (pures_of hp) hA)
      have lA := hA.len
      refine catUse ht3 (.of upd_same) (by simp; omega) fun r H3 s3 hr3 => ?_
      refine ⟨r, vs ++ [v], rows ++ [row], some (.int (0 + (i : Int))), p2, l2, rfl, But.trans b (But.trans b2 (But.trans (butOf (sameNew nU)) (butOf s3))), (St2.same (sameNew nU)).same s3, hr3,
        dinApp (dinASame s3 hA3) (.cons (dinSame s3 (dinSame (sameNew nU) hd2)) .nil), fun d hd => ?_, ?_, l20, p20, by omega, by simp; omega⟩
      · rcases List.mem_append.mp hd with h | h
        · exact hg d h
        · have : d = row := by simpa using h
          subst this
          exact hg2
      · rw [cnt_tup] at hc ⊢
        rw [List.map_append, List.sum_append]
        simp
        omega
    · exact ⟨t, vs, rows, some (.int (0 + (i : Int))), p', l', rfl, b, St1, ht, hA, hg, hc, l0', p0', pl', by omega⟩
  · obtain ⟨t, vs, rows, y4, p', l', rfl, b, St1, ht, hA, hg, hc, l0', p0', pl', _⟩ := w
    exact ⟨_, rfl, q H' _ rows p' l' b St1 (.tup ht hA) hg hc l0' p0' pl'⟩
theorem decT {p : Prop} [Decidable p] {A B : Prop} (h : p) (a : A) : if decide p = true then A else B := by rw [decide_eq_true h]; exact iteT a
theorem orE {p r : Prop} [Decidable p] {A X : Prop} (h : p ∨ r) (hA : A) (hX : r → A → X) : if decide p = true then A else X := yesDec (fun _ => hA) (fun c => hX (h.resolve_left c) hA)
theorem andE {B X : Prop} (h : B → X) (b : B) : X := h b
abbrev s__law_row : Stmt := topS 64
theorem sc__law_row : FnScope ["_law_state", "_law_deep", "_law_cell", "_law_more", "_law_many", "_law_way", "_law_box", "_law_first", "_law_words", "_law_k", "_law_one", "_law_body", "_law_word_here"] ["_law_state", "_law_deep"] (defScope s__law_row) := ⟨rfl, rfl, rfl, by decide +kernel, rfl, by decide +kernel, by decide +kernel⟩

theorem ok__law_row {f : Addr} {fd : FuncData} {k deep : Nat} (F : Fun K "_law_row" "_law_row" s__law_row f fd) (B : Bl mg) (c__law_at : C8.Cal P w K mg base k "_law_at" (spAt K) []) (c__law_into : C8.Cal P w K mg base k "_law_into" (spInto K) []) (c__law_word : C8.Cal P w K mg base k "_law_word" (spWord K) [])
    (c__law_unit : C8.Cal P w K mg base k "_law_unit" (spUnit K) []) (c__law_rows : C8.Cal P w K mg base k "_law_rows" (spGRows K deep) []) : FnOk P w K mg base CX0 (k + 1) f fd ["_law_state", "_law_deep"] (spGRow K deep) := by
  refine F.ok sc__law_row (fun vs H Q E h => ?_) (fun cdv A outer s H vs Q E hr h => ?_)
  · obtain ⟨ds, sc, tp, script, tops, p, l, rfl, _⟩ := h
    rfl
  obtain ⟨ds, sc, tp, script, tops, p, l, rfl, St, l0, p0, pl, l30, q⟩ := h
  refine ⟨_, (pss_cons (ps_set (i := 2) sc__law_row.nd rfl (.inl rfl) (C8.pe_c c__law_at hr (Nat.le_refl _) (by rfl) (pa_cons (pe_dget (hu_of hr) (pv 0) pe_str (fun _ _ => rfl)) (pa_cons (pe_dget (hu_of hr) (pv 0) pe_str (fun _ _ => rfl)) pa_nil))))
    (pss_cons (ps_set (i := 3) sc__law_row.nd rfl (.inl rfl) (C8.pe_c c__law_at hr (Nat.le_refl _) (by rfl) (pa_cons (pe_dget (hu_of hr) (pv 0) pe_str (fun _ _ => rfl)) (pa_cons (pe_op op_add (pe_dget (hu_of hr) (pv 0) pe_str (fun _ _ => rfl)) pe_int) pa_nil))))
    (pss_cons (ps_set (i := 4) sc__law_row.nd rfl (.inl rfl) (pe_callB (kLen (K := K) rfl) (by rfl) B.len PySem.boot_len (pa_cons (pe_dget (hu_of hr) (pv 0) pe_str (fun _ _ => rfl)) pa_nil)))
    (pss_cons (ps_dput (hu_of hr) (pv 0) pe_str (pe_op op_add (pe_dget (hu_of hr) (pv 0) pe_str (fun _ _ => rfl)) pe_int) rfl)
    (pss_cons (ps_dput (hu_of hr) (pv 0) pe_str (pe_op op_sub (pe_dget (hu_of hr) (pv 0) pe_str (fun _ _ => rfl)) pe_int) rfl)
    (pss_cons (ps_set (i := 5) sc__law_row.nd rfl (.inl rfl) (pe_op op_mod (pv 2) pe_int))
    (pss_cons (ps_set (i := 6) sc__law_row.nd rfl (.inl rfl) (pe_op op_mod (pe_op op_fdiv (pv 2) pe_int) (pv 4)))
    (pss_cons (ps_if (PW.pt (pw_or (pt_cmpR op_lt (pv 5) pe_int (nomark _)) (pw_or1 (PW.pt (pw_and (pt_cmpR op_eq (pv 1) pe_int (nomark _)) (pw_and1 (pt_cmpR op_gt (pv 5) pe_int (nomark _))))))))
      (pss_one (ps_ret (pe_tup (pa_cons pe_str (pa_cons (pv 6) (pa_cons (C8.pe_c c__law_into hr (Nat.le_refl _) (by rfl) (pa_cons (pv 3) (pa_cons (pv 4) (pa_cons (pv 6) pa_nil)))) pa_nil))))))
      pss_nil)
    (pss_cons (ps_if (pt_cmpR op_lt (pv 5) pe_int (nomark _))
      (pss_one (ps_ret (pe_tup (pa_cons pe_str (pa_cons (C8.pe_c c__law_word hr (Nat.le_refl _) (by rfl) (pa_cons (pv 3) (pa_cons (pv 4) pa_nil))) pa_nil)))))
      pss_nil)
    (pss_cons (ps_if (pt_cmpR op_lt (pv 5) pe_int (nomark _))
      (pss_cons (ps_set (i := 7) sc__law_row.nd rfl (.inl rfl) (C8.pe_c c__law_rows hr (Nat.le_refl _) (by rfl) (pa_cons (pv 0) (pa_cons (pe_op op_sub (pv 1) pe_int) (pa_cons (pe_op op_mod (pe_op op_fdiv (pv 2) pe_int) pe_int) pa_nil)))))
      (pss_one (ps_ret (pe_tup (pa_cons pe_str (pa_cons (C8.pe_c c__law_word hr (Nat.le_refl _) (by rfl) (pa_cons (pv 3) (pa_cons (pv 4) pa_nil))) (pa_cons (pv 7) (pa_cons (C8.pe_c c__law_rows hr (Nat.le_refl _) (by rfl) (pa_cons (pv 0) (pa_cons (pe_op op_sub (pv 1) pe_int) (pa_cons (pe_op op_mod (pe_op op_fdiv (pv 2) pe_int) pe_int) pa_nil)))) pa_nil))))))))
      pss_nil)
    (pss_cons (ps_dput (hu_of hr) (pv 0) pe_str (pe_op op_sub (pe_dget (hu_of hr) (pv 0) pe_str (fun _ _ => rfl)) pe_int) rfl)
    (pss_cons (ps_set (i := 8) sc__law_row.nd rfl (.inl rfl) (pe_tup pa_nil))
    (pss_cons (ps_for PassesOwn.never rfl (pi_range1 (by rfl) B.range (pa_cons (pe_ix (kIxL (K := K) rfl) (pe_lst (pa_cons pe_int (pa_cons pe_int (pa_cons pe_int (pa_cons pe_int (pa_cons pe_int pa_nil)))))) (pe_op op_mod (pe_op op_fdiv (pv 2) pe_int) pe_int) (fun _ _ => rfl)) pa_nil)) (pg_name (i := 9) sc__law_row.nd rfl (.inl rfl))
      (pss_cons (ps_set (i := 10) sc__law_row.nd rfl (.inl rfl) (C8.pe_c c__law_at hr (Nat.le_refl _) (by rfl) (pa_cons (pe_dget (hu_of hr) (pv 0) pe_str (fun _ _ => rfl)) (pa_cons (pe_op op_add (pe_op op_add (pe_dget (hu_of hr) (pv 0) pe_str (fun _ _ => rfl)) pe_int) (pv 9)) pa_nil))))
      (pss_one (ps_set (i := 8) sc__law_row.nd rfl (.inl rfl) (pe_op (kCatT (K := K) rfl) (pv 8) (pe_tup (pa_cons (C8.pe_c c__law_word hr (Nat.le_refl _) (by rfl) (pa_cons (pv 10) (pa_cons (pv 4) pa_nil))) pa_nil)))))))
    (pss_cons (ps_set (i := 11) sc__law_row.nd rfl (.inl rfl) (pe_tup (pa_cons (pe_tup (pa_cons pe_str (pa_cons (pv 6) (pa_cons (C8.pe_c c__law_unit hr (Nat.le_refl _) (by rfl) (pa_cons (pv 4) (pa_cons (pv 6) (pa_cons pe_int (pa_cons pe_int pa_nil))))) pa_nil)))) pa_nil)))
    (C8.pss_cut (ps_if (pt_cmpR op_eq (pe_op op_mod (pe_op op_fdiv (pv 2) pe_int) pe_int) pe_int (nomark _))
      (pss_one (ps_set (i := 11) sc__law_row.nd rfl (.inl rfl) (pe_tup pa_nil)))
      pss_nil)
    (pss_cons (ps_set (i := 11) sc__law_row.nd rfl (.inl rfl) (pe_op (kCatT (K := K) rfl) (pv 11) (C8.pe_c c__law_rows hr (Nat.le_refl _) (by rfl) (pa_cons (pv 0) (pa_cons (pe_op op_sub (pv 1) pe_int) (pa_cons (pe_op op_mod (pe_op op_fdiv (pv 2) pe_int) pe_int) pa_nil))))))
    (pss_cons (ps_set (i := 12) sc__law_row.nd rfl (.inl rfl) (C8.pe_c c__law_unit hr (Nat.le_refl _) (by rfl) (pa_cons (pv 4) (pa_cons (pv 6) (pa_cons pe_int (pa_cons (pe_op op_sub pe_int (pe_ix (kIxL (K := K) rfl) (pe_dget (hu_of hr) (pv 0) pe_str (fun _ _ => rfl)) (pv 6) (fun _ _ => rfl))) pa_nil))))))
    (C8.pss_cut (ps_if (pt_cmpR op_eq (pe_op op_mod (pe_op op_fdiv (pv 2) pe_int) pe_int) pe_int (nomark _))
      (pss_one (ps_set (i := 12) sc__law_row.nd rfl (.inl rfl) (C8.pe_c c__law_word hr (Nat.le_refl _) (by rfl) (pa_cons (pv 3) (pa_cons (pv 4) pa_nil)))))
      pss_nil)
    (pss_one (ps_ret (pe_tup (pa_cons pe_str (pa_cons (pv 12) (pa_cons (pv 8) (pa_cons (pv 11) pa_nil))))))))))))))))))))))))), ?_⟩
  refine ⟨_, rfl, ds, _, rfl, St.gS, _, rfl, ds, _, rfl, St.gA, sc, script, p, rfl, St.s, St.s63, p0, by omega, fun cell c0 c1 => ?_⟩
  refine ⟨_, rfl, ds, _, rfl, St.gS, _, rfl, ds, _, rfl, St.gA, _, _, rfl, rfl, sc, script, p + 1, rfl, St.s, St.s63, by omega, by omega, fun more d0 d1 => ?_⟩
  refine ⟨_, rfl, ds, _, rfl, St.gT, _, _, rfl, .inl St.t, ?_⟩
  have em : (tops.map V.int).length = tops.length := List.length_map _
  have w1 := St.w.1
  have w3 := St.w.2.1
  generalize hM : (tops.map V.int).length = M at *
  have m1 : 1 ≤ M := by omega
  have m3 : M ≤ 3 := by omega
  rw [← em] at q
  -- the state
  refine ⟨_, rfl, ds, _, rfl, St.gA, _, _, rfl, rfl, _, rfl, ds, _, rfl, St.pA (p + 2), ?_⟩
  have St1 := St.setA (p + 2)
  have b1 : But ds H (upd H ds (.dK (stK sc tp (p + 2) l))) := butUpd
  generalize upd H ds (.dK (stK sc tp (p + 2) l)) = H1 at *
  refine ⟨_, rfl, ds, _, rfl, St1.gL, _, _, rfl, rfl, _, rfl, ds, _, rfl, St1.pL (l - 1), ?_⟩
  have St2 := St1.setL (l - 1)
  have b2 : But ds H (upd H1 ds (.dK (stK sc tp (p + 2) (l - 1)))) := But.trans b1 butUpd
  generalize upd H1 ds (.dK (stK sc tp (p + 2) (l - 1))) = H2 at *
  clear St1 b1 St
  have dv : ∀ z : Int, CDiv z 9 ∧ CDiv z 27 ∧ CDiv z 81 ∧ CDiv z 405 ∧ CDiv z 3240 := fun z => ⟨⟨by decide, by decide⟩, ⟨by decide, by decide⟩, ⟨by decide, by decide⟩, ⟨by decide, by decide⟩, ⟨by decide, by decide⟩⟩
  have x0 : 0 ≤ cell / 9 % (M : Int) := Int.emod_nonneg _ (by omega)
  have x1 : cell / 9 % (M : Int) < M := Int.emod_lt_of_pos _ (by omega)
  refine ⟨_, rfl, _, _, rfl, rfl, (show (0 : Int) < 9 by decide), ?_⟩
  refine ⟨_, rfl, _, _, rfl, rfl, (dv _).1, _, rfl, _, _, rfl, rfl, (show (0 : Int) < (M : Int) by omega), ?_⟩
  refine ⟨_, rfl, _, _, rfl, rfl, _, rfl, ?_⟩
  by_cases hput : cell % 9 < 3 ∨ ((deep : Int) = 0 ∧ 4 < cell % 9)
  · refine orE hput ?_ (fun hr A => ⟨_, rfl, rfl, _, rfl, decT (intEq.mpr hr.1) ⟨_, rfl, _, _, rfl, rfl, _, rfl, decT hr.2 A⟩⟩)
    refine ⟨_, rfl, _, rfl, _, rfl, _, rfl, more, M, _, rfl, d0, x0, x1, m3, fun H3 v sm s3 hs hw => ⟨by show 3 ≤ sizeLine; decide, fun T nT => ?_⟩⟩
    refine q _ (.ref T) (.tup [.str "put", .int (cell / 9 % (M : Int)), dSm sm]) (p + 2) (l - 1) (But.trans b2 (But.trans (butOf s3) (butOf (sameNew nT)))) ((St2.same s3).same (sameNew nT)) (.tup (.of upd_same) (.cons (.str _) (.cons (.int _) (.cons (dinSame (sameNew nT) (dinSum hs)) .nil))))
      (put_row x0 x1 hw) ?_ (by omega) (by omega) (by omega)
    rw [cnt_put]
    omega
  have cc : ¬ cell % 9 < 3 ∧ (4 < cell % 9 → 1 ≤ deep) := by omega
  refine yesDec (fun c => absurd c cc.1) (fun _ => ?_)
  refine andE (fun B => ⟨_, rfl, rfl, _, rfl, yesDec (fun h => ⟨_, rfl, _, _, rfl, rfl, _, rfl, yesDec (fun h2 => absurd (.inr ⟨intEq.mp h, h2⟩) hput) (fun _ => B)⟩) (fun _ => B)⟩) ?_
  refine ⟨_, rfl, _, _, rfl, rfl, _, rfl, ?_⟩
  refine yesDec (fun c5 => ?_) (fun c5 => ?_)
  · refine ⟨_, rfl, _, rfl, more, M, rfl, d0, m1, m3, fun H3 v sm s3 hs hw => ⟨by show 2 ≤ sizeLine; decide, fun T nT => ?_⟩⟩
    refine q _ (.ref T) (.tup [.str "say", dSm sm]) (p + 2) (l - 1) (But.trans b2 (But.trans (butOf s3) (butOf (sameNew nT)))) ((St2.same s3).same (sameNew nT)) (.tup (.of upd_same) (.cons (.str _) (.cons (dinSame (sameNew nT) (dinSum hs)) .nil))) (say_row hw) ?_ (by omega) (by omega) (by omega)
    rw [cnt_say]
    omega
  have hdeep := cc.2 (by omega)
  obtain ⟨dp, rfl⟩ : ∃ dp, deep = dp + 1 := ⟨deep - 1, by omega⟩
  refine ⟨_, rfl, _, _, rfl, rfl, _, rfl, ?_⟩
  refine yesDec (fun c7 => ?_) (fun c7 => ?_)
  · -- an if
    refine ⟨_, rfl, _, rfl, _, _, rfl, rfl, _, rfl, _, _, rfl, rfl, (dv _).1, _, _, rfl, rfl, (show (0 : Int) < 3 by decide), ds, sc, tp, script, tops, p + 2, l - 1, _, _, rfl, by omega, by omega, St2, by omega, by omega, by omega, by omega, by omega, by omega,
      fun H3 v1 r1 p3 l3 b3 St3 hd1 hg1 hc1 l30' p30 pl3 => ?_⟩
    refine ⟨_, rfl, _, rfl, more, M, rfl, d0, m1, m3, fun H4 vw sw s4 hsw hww => ?_⟩
    have St4 := St3.same s4
    refine ⟨_, rfl, _, rfl, _, rfl, _, _, rfl, rfl, _, rfl, _, _, rfl, rfl, (dv _).2.1, _, _, rfl, rfl, (show (0 : Int) < 3 by decide), ds, sc, tp, script, tops, p3, l3, _, _, rfl, by omega, by omega, St4, by omega, by omega, by omega, by omega, by omega, by omega,
      fun H5 v2 r2 p5 l5 b5 St5 hd2 hg2 hc2 l50 p50 pl5 => ⟨by show 4 ≤ sizeLine; decide, fun T nT => ?_⟩⟩
    have ts := butTS b5 St4.d
    rw [← em] at hg1 hg2
    have e1 : dp + 1 - 1 = dp := by omega
    rw [e1] at hg1 hg2
    have pu1 := pures_of fun d hd => (hg1 d hd).2.1
    have pu2 := pures_of fun d hd => (hg2 d hd).2.1
    have hd1' := dinTS ts (by simpa [D.pure] using pu1) (dinSame s4 hd1)
    refine q _ (.ref T) (.tup [.str "if", dSm sw, .tup r1, .tup r2]) p5 l5 (But.trans b2 (But.trans b3 (But.trans (butOf s4) (But.trans b5 (butOf (sameNew nT)))))) (St5.same (sameNew nT))
      (.tup (.of upd_same) (.cons (.str _) (.cons (dinSame (sameNew nT) (dinSum (tsSum ts hsw))) (.cons (dinSame (sameNew nT) hd1') (.cons (dinSame (sameNew nT) hd2) .nil))))) (if_row hww (good_tup hg1) (good_tup hg2) pu1 pu2) ?_ (by omega) (by omega) (by omega)
    rw [cnt_if]
    omega
  -- a loop
  refine ⟨_, rfl, ds, _, rfl, St2.gL, _, _, rfl, rfl, _, rfl, ds, _, rfl, St2.pL (l - 1 - 1), ?_⟩
  have St3 := St2.setL (l - 1 - 1)
  have b3 : But ds H (upd H2 ds (.dK (stK sc tp (p + 2) (l - 1 - 1)))) := But.trans b2 butUpd
  generalize upd H2 ds (.dK (stK sc tp (p + 2) (l - 1 - 1))) = H3 at *
  clear St2 b2
  refine ⟨by show 0 ≤ sizeLine; decide, fun T0 nT0 => ?_⟩
  refine ⟨by show 5 ≤ sizeLine; decide, fun L nL => ?_⟩
  obtain ⟨z, ez, mz⟩ := atMem (xs := [0, 0, 1, 2, 3]) (i := cell / 81 % 5) (by omega) (by show cell / 81 % 5 < ((5 : Nat) : Int); omega)
  have hz : 0 ≤ z ∧ z ≤ 3 := by
    simp at mz
    omega
  have s4 : Same H3 (upd (upd H3 T0 (.tup [])) L (.lst ([0, 0, 1, 2, 3].map V.int))) := Same.trans (sameNew nT0) (sameNew nL)
  have ht0 : SqT K (upd (upd H3 T0 (.tup [])) L (.lst ([0, 0, 1, 2, 3].map V.int))) T0 [] := tupS (sameNew nL) (.of upd_same)
  refine ⟨_, rfl, _, _, rfl, rfl, (dv _).2.2.1, _, _, rfl, rfl, (show (0 : Int) < 5 by decide), _, _, _, _, rfl, rfl, .of upd_same, ez, z, rfl, by omega, by omega, ?_⟩
  have St4 := St3.same s4
  have b4 := But.trans b3 (butOf s4)
  have eL : upd (upd H3 T0 (.tup [])) L (.lst [.int 0, .int 0, .int 1, .int 2, .int 3]) = upd (upd H3 T0 (.tup [])) L (.lst ([0, 0, 1, 2, 3].map V.int)) := rfl
  rw [eL]
  generalize upd (upd H3 T0 (.tup [])) L (.lst ([0, 0, 1, 2, 3].map V.int)) = H4 at *
  clear s4 eL nL nT0 b3 St3
  refine for_range (lo := 0) (n := z.toNat) (fun i σ H' => ∃ (t : Addr) (vs : List V) (ws : List Sm) (y9 y10 : Option V), σ = [some (.ref ds), some (.int ((dp + 1 : Nat) : Int)), some (.int cell), some (.int more), some (.int (M : Int)), some (.int (cell % 9)), some (.int (cell / 9 % (M : Int))), none, some (.ref t), y9, y10, none, none] ∧
      Same H4 H' ∧ SqT K H' t vs ∧ DinA K H' vs (ws.map dSm) ∧ (∀ w ∈ ws, SumW M w) ∧ ws.length = i) ⟨T0, [], [], none, none, rfl, Same.refl _, ht0, .nil, fun w hw => by simp at hw, rfl⟩ (fun i σ H' hi w => ?_) (fun σ H5 w => ?_)
  · obtain ⟨t, vs, ws, y9, y10, rfl, sm, ht, hA, hws, hl⟩ := w
    have St5 := St4.same sm
    refine ⟨_, rfl, ds, _, rfl, St5.gS, _, rfl, ds, _, rfl, St5.gA, _, _, rfl, rfl, _, rfl, _, _, rfl, rfl, sc, script, _, rfl, St5.s, St5.s63, by omega, by omega, fun one o0 o1 => ?_⟩
    refine ⟨_, rfl, _, rfl, _, rfl, one, M, rfl, o0, m1, m3, fun H6 v sw s6 hsw hww => ⟨by show 1 ≤ sizeLine; decide, fun U nU => ?_⟩⟩
    have lA := hA.len
    refine catUse (tupS (Same.trans s6 (sameNew nU)) ht) (.of upd_same) (by simp at lA ⊢; omega) fun r H7 s7 hr7 => ?_
    refine ⟨r, vs ++ [v], ws ++ [sw], _, _, rfl, Same.trans sm (Same.trans s6 (Same.trans (sameNew nU) s7)), hr7, ?_, fun x hx => ?_, by simp [hl]⟩
    · rw [List.map_append]
      exact dinApp (dinASame (Same.trans s6 (Same.trans (sameNew nU) s7)) hA) (.cons (dinSame (Same.trans (sameNew nU) s7) (dinSum hsw)) .nil)
    · rcases List.mem_append.mp hx with h | h
      · exact hws x h
      · have : x = sw := by simpa using h
        subst this
        exact hww
  obtain ⟨t, vs, ws, y9, y10, rfl, sm, ht, hA, hws, hl⟩ := w
  have St5 := St4.same sm
  have b5 := But.trans b4 (butOf sm)
  clear sm b4 St4 ht0 ez mz
  -- the body: a put, or none
  refine ⟨_, rfl, _, rfl, _, rfl, M, _, 1, 1, rfl, x0, x1, m3, fun H6 v s6 hsb => ⟨by show 3 ≤ sizeLine; decide, fun U nU => ⟨by show 1 ≤ sizeLine; decide, fun W nW => ?_⟩⟩⟩
  have hsb' : SumIn K H6 v (unitOf M (cell / 9 % (M : Int)).toNat 1 1) := hsb
  have s7 : Same H5 (upd (upd H6 U (.tup [.str "put", .int (cell / 9 % (M : Int)), v])) W (.tup [.ref U])) := Same.trans s6 (Same.trans (sameNew nU) (sameNew nW))
  have hW : SqT K (upd (upd H6 U (.tup [.str "put", .int (cell / 9 % (M : Int)), v])) W (.tup [.ref U])) W [.ref U] := .of upd_same
  have hU : Din K (upd (upd H6 U (.tup [.str "put", .int (cell / 9 % (M : Int)), v])) W (.tup [.ref U])) (.ref U) (.tup [.str "put", .int (cell / 9 % (M : Int)), dSm (unitOf M (cell / 9 % (M : Int)).toNat 1 1)]) :=
    dinSame (sameNew nW) (.tup (.of upd_same) (.cons (.str _) (.cons (.int _) (.cons (dinSame (sameNew nU) (dinSum hsb')) .nil))))
  have St7 := St5.same s7
  have b7 := But.trans b5 (butOf s7)
  have ht7 := tupS s7 ht
  have hA7 := dinASame s7 hA
  generalize upd (upd H6 U (.tup [.str "put", .int (cell / 9 % (M : Int)), v])) W (.tup [.ref U]) = H7 at *
  clear s7 hsb' hsb s6 nU nW St5 b5 ht hA
  refine ⟨fun σ' H' => ∃ (bt : Addr) (bvs : List V) (brs : List D), σ' = [some (.ref ds), some (.int ((dp + 1 : Nat) : Int)), some (.int cell), some (.int more), some (.int (M : Int)), some (.int (cell % 9)), some (.int (cell / 9 % (M : Int))), none, some (.ref t), y9, y10, some (.ref bt), none] ∧
      Same H7 H' ∧ SqT K H' bt bvs ∧ DinA K H' bvs brs ∧ (∀ d ∈ brs, GRow M dp d) ∧ (brs.map (cntRow dp)).sum ≤ 1, ?_, ?_⟩
  · refine ⟨_, rfl, _, _, rfl, rfl, (dv _).2.2.2.1, _, _, rfl, rfl, (show (0 : Int) < 8 by decide), rfl, _, rfl, ?_⟩
    refine yesDec (fun c8 => ?_) (fun c8 => ?_)
    · exact ⟨by show 0 ≤ sizeLine; decide, fun Z nZ => ⟨Z, [], [], rfl, sameNew nZ, .of upd_same, .nil, fun d hd => by simp at hd, by simp⟩⟩
    · refine ⟨W, _, _, rfl, Same.refl _, hW, .cons hU .nil, fun d hd => ?_, ?_⟩
      · rw [List.mem_singleton.mp hd]
        exact put_row x0 x1 (unitW (by omega) (by omega))
      · simp [cnt_put]
  rintro σ' H8 ⟨bt, bvs, brs, rfl, s8, hbt, hbA, hbg, hbc⟩
  have St8 := St7.same s8
  refine ⟨_, rfl, _, rfl, _, rfl, _, _, rfl, rfl, _, rfl, _, _, rfl, rfl, (dv _).2.1, _, _, rfl, rfl, (show (0 : Int) < 3 by decide), ds, sc, tp, script, tops, p + 2, l - 1 - 1, _, _, rfl, by omega, by omega, St8, by omega, by omega, by omega, by omega, by omega, by omega,
    fun H9 v2 r2 p9 l9 b9 St9 hd2 hg2 hc2 l90 p90 pl9 => ?_⟩
  have ts := butTS b9 St8.d
  rw [← em] at hg2
  have e1 : dp + 1 - 1 = dp := by omega
  rw [e1] at hg2
  have puw : D.pures (ws.map dSm) = true := pures_of fun d hd => by
    obtain ⟨x, _, rfl⟩ := List.mem_map.mp hd
    exact pureSum x
  have pub := pures_of fun d hd => (hbg d hd).2.1
  have pu2 := pures_of fun d hd => (hg2 d hd).2.1
  have ht9 := tsTup ts (tupS s8 ht7)
  have hA9 := dinATS ts puw (dinASame s8 hA7)
  have hbt9 := tsTup ts hbt
  have hbA9 := dinATS ts pub hbA
  have b10 := But.trans b7 (But.trans (butOf s8) b9)
  cases hd2 with
  | @tup a2 xs2 _ h2 hA2 =>
    have lb := hbA.len
    have l2 := hA2.len
    have hb1 : brs.length ≤ 1 := by
      have : brs.length ≤ (brs.map (cntRow dp)).sum := by
        clear hbt hbA hbg hbc hbt9 hbA9 pub lb
        induction brs with
        | nil => simp
        | cons x r ih =>
          simp only [List.length_cons, List.map_cons, List.sum_cons, cntRow] at ih ⊢
          omega
      omega
    have hr2 : r2.length ≤ 40 := by
      rw [cnt_tup] at hc2
      have : r2.length ≤ (r2.map (cntRow dp)).sum := by
        clear hc2 hg2 pu2 l2 hA2
        induction r2 with
        | nil => simp
        | cons x r ih =>
          simp only [List.length_cons, List.map_cons, List.sum_cons, cntRow] at ih ⊢
          omega
      omega
    refine catUse hbt9 h2 (by omega) fun r H10 s10 hr10 => ?_
    have hbody := dinApp (dinASame s10 hbA9) (dinASame s10 hA2)
    have hgb : ∀ d ∈ brs ++ r2, GRow M dp d := fun d hd => (List.mem_append.mp hd).elim (hbg d) (hg2 d)
    have St10 := St9.same s10
    have b11 := But.trans b10 (butOf s10)
    -- the word
    obtain ⟨top, etop, mtop⟩ := atMem (xs := tops) (i := cell / 9 % (M : Int)) x0 (by omega)
    have wtop := St10.w.2.2 top mtop
    refine ⟨_, rfl, _, rfl, _, rfl, ds, _, rfl, St10.gT, _, rfl, _, _, _, _, rfl, rfl, St10.t, etop, _, _, rfl, rfl, M, _, 1, 1 - top, rfl, x0, x1, m3, fun H11 vw s11 hsw => ?_⟩
    have hww : SumW M (unitOf M (cell / 9 % (M : Int)).toNat 1 (1 - top)) := unitW (by omega) (by omega)
    refine ⟨fun σ' H' => ∃ (vw : V) (sw : Sm), σ' = [some (.ref ds), some (.int ((dp + 1 : Nat) : Int)), some (.int cell), some (.int more), some (.int (M : Int)), some (.int (cell % 9)), some (.int (cell / 9 % (M : Int))), none, some (.ref t), y9, y10, some (.ref r), some vw] ∧
      Same H10 H' ∧ SumIn K H' vw sw ∧ SumW M sw, ?_, ?_⟩
    · refine ⟨_, rfl, _, _, rfl, rfl, (dv _).2.2.2.2, _, _, rfl, rfl, (show (0 : Int) < 6 by decide), rfl, _, rfl, ?_⟩
      refine yesDec (fun c9 => ?_) (fun c9 => ?_)
      · exact ⟨_, rfl, _, rfl, more, M, rfl, d0, m1, m3, fun H12 v3 s3 s12 hs3 hw3 => ⟨v3, s3, rfl, Same.trans s11 s12, hs3, hw3⟩⟩
      · exact ⟨vw, _, rfl, s11, hsw, hww⟩
    rintro σ' H12 ⟨vw2, sw2, rfl, s12, hs12, hw12⟩
    refine ⟨_, rfl, _, rfl, _, rfl, by show 4 ≤ sizeLine; decide, fun T nT => ?_⟩
    have s13 := Same.trans s12 (sameNew (o := .tup [.str "loop", vw2, .ref t, .ref r]) nT)
    refine q _ (.ref T) (.tup [.str "loop", dSm sw2, .tup (ws.map dSm), .tup (brs ++ r2)]) p9 l9 (But.trans b11 (butOf s13)) (St10.same s13)
      (.tup (.of upd_same) (.cons (.str _) (.cons (dinSame (sameNew nT) (dinSum hs12)) (.cons (.tup (tupS (Same.trans s10 s13) ht9) (dinASame (Same.trans s10 s13) hA9)) (.cons (.tup (tupS s13 hr10) (dinASame s13 hbody)) .nil)))))
      (loop_row hw12 hws (by omega) (good_tup hgb) (pures_of fun d hd => (hgb d hd).2.1)) ?_ (by omega) (by omega) (by omega)
    rw [cnt_loop, cnt_tup, List.map_append, List.sum_append]
    rw [cnt_tup] at hc2
    omega

end

end LW

namespace LW
open PySem PySem.Spec PyProof.Rows L2
local macro_rules | `(tactic| walk_at "go1") => `(tactic| first
  | refine ⟨_, rfl, ?_⟩
  | refine ⟨_, _, rfl, rfl, ?_⟩
  | refine ⟨show (0 : Int) < _ from by omega, ?_⟩
  | refine ⟨show CMul _ _ from by first | exact .inl ⟨by omega, by omega⟩ | exact .inr ⟨by omega, by omega⟩, ?_⟩
  | refine ⟨show CDiv _ _ from ⟨by omega, by omega⟩, ?_⟩)
local macro_rules | `(tactic| walk_at "go") => `(tactic| repeat walk_at "go1")

section
variable {P : Program} {w : World} {K : PySem.W.Frag} {mg : Str → Option Value} {base : Heap}

theorem merge_st {sc tp : Addr} {p l : Int} : mergeK [] (stK sc tp p l) = stK sc tp p l := by
  have h := stNe
  have k1 := keyNe h.1
  have k2 := keyNe h.2.1
  have k3 := keyNe h.2.2.1
  have k4 := keyNe h.2.2.2.1
  have k5 := keyNe h.2.2.2.2.1
  have k6 := keyNe h.2.2.2.2.2
  simp only [mergeK, stK, List.foldl_cons, List.foldl_nil, putK, List.any_cons, List.any_nil, List.nil_append, List.cons_append, decide_eq_false k1, decide_eq_false k2, decide_eq_false k3, decide_eq_false k4, decide_eq_false k5, decide_eq_false k6, Bool.or_false, Bool.or_self, Bool.false_eq_true, if_false]
def spProgG (K : PySem.W.Frag) : Sp := fun vs H Q _ => ∃ (a : Addr) (ns : List Int) (most : Int), vs = [.ref a, .int most] ∧ SqL K H a (ns.map V.int) ∧ ns.length ≤ 63 ∧ 1 ≤ most ∧ most ≤ 28 ∧
  ∀ (r tp : Addr) (H' : Hp) (v : V) (tops : List Int) (rows : List D), Same H H' → SqT K H' r [.ref tp, v] → H tp = none → H' tp = some (.lst (tops.map V.int)) → TopsW tops → Din K H' v (.tup rows) → (∀ d ∈ rows, GRow tops.length 3 d) → ((cnt 4 (.tup rows) : Nat) : Int) ≤ most + 1 → Q (.ref r) H'
abbrev s__law_program : Stmt := topS 66
theorem sc__law_program : FnScope ["_law_script", "_law_most", "_law_tops_here", "_law_state"] ["_law_script", "_law_most"] (defScope s__law_program) := ⟨rfl, rfl, rfl, by decide +kernel, rfl, by decide +kernel, by decide +kernel⟩

theorem ok__law_program {f : Addr} {fd : FuncData} {k : Nat} (F : Fun K "_law_program" "_law_program" s__law_program f fd) (B : Bl mg) (c__law_at : C8.Cal P w K mg base k "_law_at" (spAt K) []) (c__law_tops : C8.Cal P w K mg base k "_law_tops" (spTopsG K) []) (c__law_rows : C8.Cal P w K mg base k "_law_rows" (spGRows K 4) []) : FnOk P w K mg base CX0 (k + 1) f fd ["_law_script", "_law_most"] (spProgG K) := by
  refine F.ok sc__law_program (fun vs H Q E h => ?_) (fun cdv A outer s H vs Q E hr h => ?_)
  · obtain ⟨a, ns, most, rfl, _⟩ := h
    rfl
  obtain ⟨a, ns, most, rfl, hS, h63, hm0, hm1, q⟩ := h
  refine ⟨_, (pss_cons (ps_set (i := 2) sc__law_program.nd rfl (.inl rfl) (C8.pe_c c__law_tops hr (Nat.le_refl _) (by rfl) (pa_cons (pv 0) pa_nil)))
    (pss_cons (ps_set (i := 3) sc__law_program.nd rfl (.inl rfl) (pe_disp (pps_cons pe_str (pv 0) (pps_cons pe_str pe_int (pps_cons pe_str (pv 1) (pps_cons pe_str (pv 2) pps_nil)))) (by rfl) (by rfl) (fun z => by cases z) (by decide)))
    (pss_one (ps_ret (pe_tup (pa_cons (pv 2) (pa_cons (C8.pe_c c__law_rows hr (Nat.le_refl _) (by rfl) (pa_cons (pv 3) (pa_cons pe_int (pa_cons (pe_op op_mod (C8.pe_c c__law_at hr (Nat.le_refl _) (by rfl) (pa_cons (pv 0) (pa_cons pe_int pa_nil))) (pe_op op_add (pv 1) pe_int)) pa_nil)))) pa_nil))))))), ?_⟩
  refine ⟨_, rfl, a, ns, rfl, hS, h63, fun tp H1 tops n1 s1 ht tw => ?_⟩
  refine fun ds nd => ⟨_, rfl, _, rfl, _, rfl, upd_same, stK a tp 4 most, rfl, by show 4 ≤ 15; decide, ?_⟩
  rw [merge_st]
  have nd0 : H ds = none := Same.free s1 nd
  have e2 : upd (upd H1 ds (.dK [])) ds (.dK (stK a tp 4 most)) = upd H1 ds (.dK (stK a tp 4 most)) := by
    funext x
    by_cases hx : x = ds
    · subst hx
      rw [upd_same, upd_same]
    · rw [upd_ne hx, upd_ne hx, upd_ne hx]
  rw [e2]
  have s2 : Same H1 (upd H1 ds (.dK (stK a tp 4 most))) := sameNew nd
  have St : Stt K (upd H1 ds (.dK (stK a tp 4 most))) ds a tp ns tops 4 most := ⟨upd_same, Same.seq s2 (Same.seq s1 hS), h63, .of (s2 _ _ ht), tw⟩
  generalize hG : upd H1 ds (.dK (stK a tp 4 most)) = H2 at *
  have ht2 : H2 tp = some (.lst (tops.map V.int)) := s2 _ _ ht
  refine ⟨_, rfl, _, rfl, _, rfl, a, ns, 3, rfl, St.s, h63, by omega, by omega, fun z z0 z1 => ?_⟩
  refine ⟨_, rfl, _, _, rfl, rfl, _, _, rfl, rfl, (show (0 : Int) < most + 1 by omega), ?_⟩
  have e0 : 0 ≤ z % (most + 1) := Int.emod_nonneg _ (by omega)
  have e1 : z % (most + 1) < most + 1 := Int.emod_lt_of_pos _ (by omega)
  refine ⟨ds, a, tp, ns, tops, 4, most, 3, _, rfl, by omega, by omega, St, by omega, by omega, by omega, by omega, e0, by omega, fun H3 v rows p' l' b3 St3 hd hg hc l0 p0 pl => ?_⟩
  have s3 : Same H H3 := fun x o hx => by
    have h1 : x ≠ ds := fun z => by rw [z, nd0] at hx; cases hx
    exact b3 x o h1 (s2 _ _ (s1 _ _ hx))
  have hne : tp ≠ ds := fun z => by rw [z, nd] at ht; cases ht
  refine ⟨by show 2 ≤ sizeLine; decide, fun T nT => ?_⟩
  exact q T tp _ v tops rows (Same.trans s3 (sameNew nT)) (.of upd_same) n1 (sameNew nT _ _ (b3 _ _ hne ht2)) tw (dinSame (sameNew nT) hd) hg (by omega)

end

end LW

namespace LW
open PySem PySem.Spec PyProof.Rows L2
local macro_rules | `(tactic| walk_at "go1") => `(tactic| first
  | refine ⟨_, rfl, ?_⟩
  | refine ⟨_, _, rfl, rfl, ?_⟩
  | refine ⟨show (0 : Int) < _ from by omega, ?_⟩
  | refine ⟨show CMul _ _ from by first | exact .inl ⟨by omega, by omega⟩ | exact .inr ⟨by omega, by omega⟩, ?_⟩
  | refine ⟨show CDiv _ _ from ⟨by omega, by omega⟩, ?_⟩)
local macro_rules | `(tactic| walk_at "go") => `(tactic| repeat walk_at "go1")

section
variable {P : Program} {w : World} {K : PySem.W.Frag} {mg : Str → Option Value} {base : Heap}

/-! ### all but the tables stays -/
theorem seqExt {H H' : Hp} {a : Addr} {xs : List V} (e : LamX.ExtN H H') (h : SqL K H a xs) : SqL K H' a xs := by
  rcases h with (h | ⟨o, h⟩) | h
  · exact .inl (.inl (e _ _ h fun _ z => by cases z))
  · exact .inl (.inr ⟨o, e _ _ h (fun _ z => by cases z)⟩)
  · exact .inr h
theorem extLst {H H' : Hp} {a : Addr} {xs : List V} (e : LamX.ExtN H H') (h : H a = some (.lst xs)) : H' a = some (.lst xs) := e _ _ h fun _ z => by cases z
theorem extMut {H0 H : Hp} {a : Addr} {o : HO} (e : LamX.ExtN H0 H) (h : NewT H0 a) : LamX.ExtN H0 (upd H a o) := fun b u hb n => by
  rw [upd_ne (h.ne hb n)]
  exact e b u hb n
theorem PgIn.ext {H H' : Hp} {C x : Addr} {tops : List Int} {R : Rs} (e : LamX.ExtN H H') (h : PgIn K H C x tops R) : PgIn K H' C x tops R := by
  obtain ⟨a, xs, ⟨dx, t, h1, h2⟩, h3, h4, h5, h6⟩ := h
  exact ⟨a, xs, ⟨dx, t, e _ _ h1 (fun _ z => by cases z), tsTup (tsExt e) h2⟩, tsTup (tsExt e) h3, dinATS (tsExt e) (rowsPure h5) h4, h5, h6⟩
theorem TkA.ext {Ls : List Addr} {H H' : Hp} {v : V} {t : Tk × Addr} (e : LamX.ExtN H H') (h : TkA K Ls H v t) : TkA K Ls H' v t := by
  obtain ⟨a, sa, tr, pa, wvs, e0, h1, h2, h3, h4, h5, h6, h7⟩ := h
  have t0 := tsExt e
  exact ⟨a, sa, tr, pa, wvs, e0, tsTup t0 h1, tsTup t0 h2, tsTup t0 h3, tsTup t0 h4, extLst e h5, sumsS t0 h6, h7⟩
theorem TkA.weak {Ls : List Addr} {H : Hp} {v : V} {t : Tk × Addr} (h : TkA K Ls H v t) : TkA K [] H v t := by
  obtain ⟨a, sa, tr, pa, wvs, e0, h1, h2, h3, h4, h5, h6, h7⟩ := h
  exact ⟨a, sa, tr, pa, wvs, e0, h1, h2, h3, h4, h5, h6, fun z => by cases z⟩
theorem tksA {L : Addr} {H0 H : Hp} {us : List V} {X : List Tk} (h : TksIn K L H0 H us X) : ∃ ps : List (Tk × Addr), ps.map (·.1) = X ∧ A2 (TkA K [] H) us ps := by
  obtain ⟨ps, e, h1, _⟩ := h
  exact ⟨ps, e, A2.map (B' := ps) (fun _ _ _ r => r.weak) (fun _ m => m) h1⟩
theorem tksExt {Ls : List Addr} {H H' : Hp} {us : List V} {ps : List (Tk × Addr)} (e : LamX.ExtN H H') (h : A2 (TkA K Ls H) us ps) : A2 (TkA K Ls H') us ps := A2.map (B' := ps) (fun _ _ _ r => r.ext e) (fun _ m => m) h
theorem tksSame {Ls : List Addr} {H H' : Hp} {us : List V} {ps : List (Tk × Addr)} (e : Same H H') (h : A2 (TkA K Ls H) us ps) : A2 (TkA K Ls H') us ps := A2.map (B' := ps) (fun _ _ _ r => r.same e) (fun _ m => m) h
theorem topsYes {tops : List Int} (h : TopsW tops) : topsOk (tops.map D.int) = true := by
  obtain ⟨h1, h2, h3⟩ := h
  simp only [topsOk, List.length_map, h1, h2, decide_true, Bool.true_and, List.all_map, List.all_eq_true]
  intro t ht
  exact fromTo_int (h3 t ht).1 (h3 t ht).2
/-- a program made of good rows -/
theorem initUse {H4 : Hp} {C CB Hd a1 x dx : Addr} {tops : List Int} {xs : List V} {R : Rs} {Z : Hp → Prop} {E : XK} (hHd : SqL K H4 Hd (tops.map V.int)) (hT : SqT K H4 a1 xs) (hA : DinA K H4 xs R.ds) (hg : ∀ d ∈ R.ds, GRow tops.length 3 d) (hRW : R.W tops.length) (hRd : R.dep ≤ 3) (hN : R.num ≤ 12) (tw : TopsW tops)
    (nx : H4 x = none) (ndx : H4 dx = none) (nex : dx ≠ x) (q : ∀ H5 : Hp, Same H4 H5 → PgIn K H5 C x tops R → Z H5) :
    spInit K C CB (.ref x :: ([.ref Hd, .ref a1] ++ [])) (upd (upd H4 dx (.own x)) x (.ins C dx [])) (fun v H2 => v = .non ∧ Z H2) E := by
  have s4 : Same H4 (upd (upd H4 dx (.own x)) x (.ins C dx [])) := Same.trans (sameNew ndx) (sameNew (by rw [upd_ne (Ne.symm nex)]; exact nx))
  have l2 : (tops.map D.int).length = tops.length := List.length_map _
  have gd : good (tops.map D.int).length 4 (.tup R.ds) = true := by rw [l2]; exact good_tup hg
  have ecn : cnt 4 (.tup R.ds) = R.num := rs_cnt R 3 hRd
  have hck := chk_some gd (by omega)
  have ty := topsYes tw
  refine ⟨x, dx, _, _, rfl, upd_same, .inr ⟨Hd, _, tops.map D.int, rfl, Same.seq s4 hHd, dinInts tops, fun z => (by rw [ty] at z; cases z), fun _ => ⟨.tup R.ds, .tup (tupS s4 hT) (dinASame s4 hA), fun z => (by rw [hck] at z; cases z), fun n hn H5 t keep hx5 ht5 => ⟨rfl, ?_⟩⟩⟩⟩
  have s45 : Same H4 H5 := fun b o ho => keep b o (fun z => by rw [z, nx] at ho; cases ho) (s4 _ _ ho)
  exact q H5 s45 ⟨a1, xs, ⟨dx, t, hx5, ht5⟩, tupS s45 hT, dinASame s45 hA, hg, hRW, hRd, hN, tw⟩
theorem Right.deep {tops : List Int} {tks : List Tk} {ts : List Tr} (tw : TopsW tops) (h : Right tops tks (.kept ts)) : ∀ t ∈ ts, t.deep ≤ 28 := fun t ht => by
  obtain ⟨i, hi⟩ := List.mem_iff_getElem?.mp ht
  obtain ⟨tk, _, e⟩ := h.2 i t hi
  have := deep_le t e
  have := wiSize tw
  omega
theorem insOk : ∀ {tops fs : List Int}, InS (wi tops) fs → fs.length = tops.length ∧ okF fs tops = true := by
  have key : ∀ (tops fs : List Int), InS (wi tops) fs → fs.length = tops.length ∧ ∀ k, k < tops.length → 0 ≤ fs[k]?.getD 0 ∧ fs[k]?.getD 0 ≤ tops[k]?.getD 0 := by
    intro tops
    induction tops with
    | nil =>
      intro fs h
      cases fs with
      | nil => exact ⟨rfl, fun k hk => by simp at hk⟩
      | cons f r => exact h.elim
    | cons t r ih =>
      intro fs h
      cases fs with
      | nil => exact h.elim
      | cons f q =>
        obtain ⟨h1, h2, h3⟩ := h
        obtain ⟨l, hk⟩ := ih q h3
        refine ⟨by simp [l], fun k hk2 => ?_⟩
        cases k with
        | zero => simpa using ⟨h1, h2⟩
        | succ k => simpa using hk k (by simpa using hk2)
  intro tops fs h
  obtain ⟨h1, h2⟩ := key tops fs h
  refine ⟨h1, ?_⟩
  rw [okF, List.all_eq_true]
  intro k hk
  have := h2 k (List.mem_range.mp hk)
  simp [this]

end

end LW

namespace LW
open PySem PySem.Spec PyProof.Rows L2
local macro_rules | `(tactic| walk_at "go1") => `(tactic| first
  | refine ⟨_, rfl, ?_⟩
  | refine ⟨_, _, rfl, rfl, ?_⟩
  | refine ⟨show (0 : Int) < _ from by omega, ?_⟩
  | refine ⟨show CMul _ _ from by first | exact .inl ⟨by omega, by omega⟩ | exact .inr ⟨by omega, by omega⟩, ?_⟩
  | refine ⟨show CDiv _ _ from ⟨by omega, by omega⟩, ?_⟩)
local macro_rules | `(tactic| walk_at "go") => `(tactic| repeat walk_at "go1")

section
variable {P : Program} {w : World} {K : PySem.W.Frag} {mg : Str → Option Value} {base : Heap}

theorem dot_unit (c : Int) (b : Nat) : ∀ (fs : List Int) (k m : Nat), fs.length ≤ m → dot ((List.range' k m).map fun at_ => if at_ = b then c else 0) fs = if k ≤ b then c * (fs[b - k]?.getD 0) else 0
  | [], k, m, _ => by
    have e : ∀ l : List Int, dot l [] = 0 := fun l => by cases l <;> rfl
    rw [e]
    simp
  | f :: fs, k, 0, h => by simp at h
  | f :: fs, k, m + 1, h => by
    have ih := dot_unit c b fs (k + 1) m (by simpa using h)
    rw [List.range'_succ, List.map_cons, dot, ih]
    by_cases h1 : k = b
    · subst h1
      rw [if_pos rfl, if_pos (Nat.le_refl _), if_neg (by omega)]
      simp
    · rw [if_neg h1]
      by_cases h2 : k + 1 ≤ b
      · rw [if_pos h2, if_pos (by omega), show b - k = (b - (k + 1)) + 1 by omega]
        simp
      · rw [if_neg h2, if_neg (by omega)]
        simp
theorem holds_app (a b : List Sm) (fs : List Int) : holds (a ++ b) fs = (holds a fs && holds b fs) := by simp [holds]
theorem val_unitN {c d : Int} {b n : Nat} {fs : List Int} (hl : fs.length = n) (hb : b < n) : val (unitN c b n, d) fs = d + c * (fs[b]?.getD 0) := by
  have := dot_unit c b fs 0 n (by omega)
  show d + dot ((List.range n).map fun at_ => if at_ = b then c else 0) fs = _
  rw [List.range_eq_range', this]
  simp
theorem insIff : ∀ {tops fs : List Int}, InS (wi tops) fs ↔ fs.length = tops.length ∧ ∀ k, k < tops.length → 0 ≤ fs[k]?.getD 0 ∧ fs[k]?.getD 0 ≤ tops[k]?.getD 0
  | [], [] => ⟨fun _ => ⟨rfl, fun k hk => by simp at hk⟩, fun _ => trivial⟩
  | [], _ :: _ => ⟨fun h => h.elim, fun h => by simp at h⟩
  | _ :: _, [] => ⟨fun h => h.elim, fun h => by simp at h⟩
  | t :: r, f :: s => by
    have ih := insIff (tops := r) (fs := s)
    constructor
    · intro h
      obtain ⟨h1, h2, h3⟩ := (show 0 ≤ f ∧ f ≤ t ∧ InS (wi r) s from h)
      obtain ⟨l, h4⟩ := ih.mp h3
      refine ⟨by simp [l], fun k hk => ?_⟩
      cases k with
      | zero => exact ⟨h1, h2⟩
      | succ k => exact h4 k (by simpa using hk)
    · intro ⟨l, h4⟩
      have h0 := h4 0 (by simp)
      exact (show 0 ≤ f ∧ f ≤ t ∧ InS (wi r) s from ⟨h0.1, h0.2, ih.mpr ⟨by simpa using l, fun k hk => h4 (k + 1) (by simpa using hk)⟩⟩)
theorem bnd_in {tops hs0 : List Int} (hl : hs0.length = tops.length) : holds (bnd tops) hs0 = true ↔ InS (wi tops) hs0 := by
  rw [insIff, holds, List.all_eq_true]
  constructor
  · intro h
    refine ⟨hl, fun k hk => ?_⟩
    have hm : (tops[k], k) ∈ tops.zipIdx := by
      rw [List.mem_zipIdx_iff_getElem?]
      exact List.getElem?_eq_getElem hk
    have h1 := h (unitN (-1) k tops.length, 0) (List.mem_flatMap.mpr ⟨_, hm, List.mem_cons_self ..⟩)
    have h2 := h (unitN 1 k tops.length, -tops[k]) (List.mem_flatMap.mpr ⟨_, hm, List.mem_cons_of_mem _ (List.mem_cons_self ..)⟩)
    have h1 := of_decide_eq_true h1
    have h2 := of_decide_eq_true h2
    rw [val_unitN hl hk] at h1 h2
    rw [List.getElem?_eq_getElem hk]
    show _ ∧ _ ≤ tops[k]
    omega
  · intro ⟨_, h⟩ s hs
    obtain ⟨⟨t, k⟩, hm, hs⟩ := List.mem_flatMap.mp hs
    rw [List.mem_zipIdx_iff_getElem?] at hm
    have hm : tops[k]? = some t := hm
    have hk := (List.getElem?_eq_some_iff.mp hm).1
    have hb := h k hk
    rw [hm] at hb
    have hb : 0 ≤ hs0[k]?.getD 0 ∧ hs0[k]?.getD 0 ≤ t := hb
    apply decide_eq_true
    rcases List.mem_cons.mp hs with rfl | hs
    · rw [val_unitN hl hk]
      omega
    · rw [List.mem_singleton.mp hs, val_unitN hl hk]
      omega
def badZ (A : List Sm) (hs : List Int) (i : Nat) : List (Sm × Nat) := (A.zipIdx.take i).filter fun q => decide (0 < val q.1 hs)
theorem badZ_snoc {A : List Sm} {hs : List Int} {i : Nat} {s : Sm} (e : A[i]? = some s) : badZ A hs (i + 1) = badZ A hs i ++ if 0 < val s hs then [(s, i)] else [] := by
  have e2 : A.zipIdx[i]? = some (s, i) := by rw [List.getElem?_zipIdx, e]; simp
  unfold badZ
  rw [List.take_add_one, e2, List.filter_append]
  congr 1
  by_cases c : 0 < val s hs <;> simp [c]
theorem badZ_all {A : List Sm} {hs : List Int} : badZ A hs A.length = A.zipIdx.filter fun q => decide (0 < val q.1 hs) := by
  unfold badZ
  rw [List.take_of_length_le (by simp)]
theorem badZ_len {A : List Sm} {hs : List Int} {i : Nat} : (badZ A hs i).length ≤ i := by
  unfold badZ
  refine Nat.le_trans (List.length_filter_le ..) ?_
  rw [List.length_take]
  exact Nat.min_le_left ..
theorem badZ_nil {A : List Sm} {hs : List Int} : badZ A hs A.length = [] ↔ holds A hs = true := by
  rw [badZ_all, List.filter_eq_nil_iff, holds, List.all_eq_true]
  constructor
  · intro h s hm
    obtain ⟨j, hj⟩ := List.mem_iff_getElem?.mp hm
    have := h (s, j) (List.mem_zipIdx_iff_getElem?.mpr hj)
    have : ¬ 0 < val s hs := fun c => this (decide_eq_true c)
    exact decide_eq_true (by omega)
  · intro h q hq
    have := of_decide_eq_true (h q.1 (List.mem_of_getElem? (List.mem_zipIdx_iff_getElem?.mp hq)))
    simp only [decide_eq_true_eq]
    omega
theorem orW {t u : TT} {σ : L2.St} {H : Hp} {Q : Bool → Hp → Prop} (P' : Hp → Prop) (b : Bool) (h : ∀ R : Bool → Hp → Prop, (∀ H', P' H' → R b H') → tOr t u σ H R) (q : ∀ H', P' H' → Q b H') : tOr t u σ H Q := h Q q
theorem ifOr {t u : TT} {a b : L2.TS} {D : L2.Ends} {σ : L2.St} {H : Hp} (h : tOr t u σ H (fun k H1 => if k = true then a D σ H1 else b D σ H1)) : tIfS (tOr t u) a b D σ H := h
theorem eqvNil6 (ws : List Int) : PyData.eqv (.list (dI ws)) (.list []) = decide (ws = []) := by
  cases ws with
  | nil => simp [dI, PyData.eqv, PyData.eqvAll]
  | cons w r => simp [dI, PyData.eqv, PyData.eqvAll]

/-- a deed as data -/
def Rs.kind : Rs → Str
  | .nil => ""
  | .put .. => "put"
  | .say .. => "say"
  | .ite .. => "if"
  | .loop .. => "loop"
def dPc (pl : List Nat) : D := .tup (pl.map fun n : Nat => D.int (n : Int))
def De.d : De → D
  | .row p => .tup [.str p.rs.kind, dPc (p.ah ++ [p.i]), p.rs.hd]
  | .br p to => .tup [.str p.rs.kind, dPc (p.ah ++ [p.i]), p.rs.hd, .int (to : Int)]
  | .jump pl to => .tup [.str "jump", dPc pl, .int (to : Int)]
theorem puresApp : ∀ {a b : List D}, D.pures a = true → D.pures b = true → D.pures (a ++ b) = true := fun {a b} h1 h2 => pures_of fun d hd => by
  rcases List.mem_append.mp hd with h | h
  · exact purePart h1 h
  · exact purePart h2 h
theorem pureSums (ws : List Sm) : D.pures (ws.map dSm) = true := pures_of fun d hd => by
  obtain ⟨s, _, rfl⟩ := List.mem_map.mp hd
  exact pureSum s
theorem rsPure : ∀ rs : Rs, D.pures rs.ds = true
  | .nil => rfl
  | .put b s t => by simp [Rs.ds, D.pures, D.pure, pureSum, rsPure t]
  | .say w t => by simp [Rs.ds, D.pures, D.pure, pureSum, rsPure t]
  | .ite w a b t => by simp [Rs.ds, D.pures, D.pure, pureSum, rsPure a, rsPure b, rsPure t]
  | .loop w ws b t => by simp [Rs.ds, D.pures, D.pure, pureSum, pureSums, rsPure b, rsPure t]
theorem hdPure (rs : Rs) : rs.hd.pure = true := by
  cases rs with
  | nil => rfl
  | put b s t => simp [Rs.hd, D.pures, D.pure, pureSum]
  | say w t => simp [Rs.hd, D.pures, D.pure, pureSum]
  | ite w a b t => simp [Rs.hd, D.pures, D.pure, pureSum, rsPure]
  | loop w ws b t => simp [Rs.hd, D.pures, D.pure, pureSum, pureSums, rsPure]
theorem pcPure (pl : List Nat) : (dPc pl).pure = true := by
  show D.pures _ = true
  refine pures_of fun d hd => ?_
  obtain ⟨n, _, rfl⟩ := List.mem_map.mp hd
  rfl
theorem dePure (d : De) : d.d.pure = true := by
  cases d <;> simp [De.d, D.pures, D.pure, pcPure, hdPure]
theorem desPure (l : List De) : D.pures (l.map De.d) = true := pures_of fun d hd => by
  obtain ⟨s, _, rfl⟩ := List.mem_map.mp hd
  exact dePure s
theorem dinPc {H : Hp} {a : Addr} {pl : List Nat} (h : SqT K H a (nats pl)) : Din K H (.ref a) (dPc pl) := by
  refine .tup h ?_
  have := dinInts (K := K) (H := H) (pl.map fun n : Nat => (n : Int))
  rw [List.map_map, List.map_map] at this
  exact this
theorem setMid {α : Type} {A B : List α} {x y : α} {n : Nat} (e : n = A.length) : (A ++ x :: B).set n y = A ++ y :: B := by
  subst e
  simp
theorem dinSetD {H : Hp} : ∀ {vs : List V} {ds : List D} {j : Nat} {v : V} {d : D}, DinA K H vs ds → Din K H v d → DinA K H (vs.set j v) (ds.set j d)
  | _, _, _, _, _, .nil, _ => .nil
  | _, _, 0, _, _, .cons _ t, h => .cons h t
  | _, _, j + 1, _, _, .cons g t, h => .cons g (dinSetD t h)
theorem mapSet {α β : Type} {f : α → β} {l : List α} {j : Nat} {x : α} : (l.map f).set j (f x) = (l.set j x).map f := by simp [List.map_set]
theorem hdKind {H : Hp} {v : V} {rs : Rs} (n : rs.isNil = false) (h : Din K H v rs.hd) : ∃ ra rx, v = .ref ra ∧ SqT K H ra rx ∧ rx[0]? = some (.str rs.kind) := by
  cases rs with
  | nil => cases n
  | _ =>
    cases h with
    | @tup ra rx _ hR hRA =>
    cases hRA with
    | cons k0 kA =>
    cases k0
    exact ⟨_, _, rfl, hR, rfl⟩
abbrev s__law_code : Stmt := topS 67
theorem sc__law_code : FnScope ["_law_rows_here", "_law_ahead", "_law_code_here", "_law_k", "_law_row_here", "_law_place", "_law_at_here", "_law_middle"] ["_law_rows_here", "_law_ahead", "_law_code_here"] (defScope s__law_code) := ⟨rfl, rfl, rfl, by decide +kernel, rfl, by decide +kernel, by decide +kernel⟩

def spCode (K : PySem.W.Frag) (i : Nat) : Sp := fun vs H Q _ => ∃ (a b L : Addr) (xs us : List V) (R : Rs) (ah : List Nat) (fr : Fr) (pre : List De), vs = [.ref a, .ref b, .ref L] ∧ SqT K H a xs ∧ DinA K H xs R.ds ∧ SqT K H b (nats ah) ∧ H L = some (.lst us) ∧ DinA K H us (pre.map De.d) ∧ R.dep < i ∧ ah.length + 2 * i ≤ 100 ∧ pre.length + clen R ≤ 1000 ∧
  ∀ (us' : List V) (H' : Hp), But L H H' → H' L = some (.lst us') → DinA K H' us' ((pre ++ codeR R ah 0 fr pre.length).map De.d) → Q .non H'
theorem ok__law_code {f : Addr} {fd : FuncData} {k i : Nat} (F : Fun K "_law_code" "_law_code" s__law_code f fd) (B : Bl mg) (c__law_code : C8.Cal P w K mg base k "_law_code" (spCode K i) []) : FnOk P w K mg base CX0 (k + 1) f fd ["_law_rows_here", "_law_ahead", "_law_code_here"] (spCode K (i + 1)) := by
  refine F.ok sc__law_code (fun vs H Q E h => ?_) (fun cdv A outer s H vs Q E hr h => ?_)
  · obtain ⟨a, b, L, xs, us, R, ah, fr, pre, rfl, _⟩ := h
    rfl
  obtain ⟨a, b, L, xs, us, R, ah, fr, pre, rfl, hT, hA, hb, hL, hU, hd, ha, hp, q⟩ := h
  refine ⟨_, (pss_one (ps_for PassesOwn.never rfl (pi_range1 (by rfl) B.range (pa_cons (pe_callB (kLen (K := K) rfl) (by rfl) B.len PySem.boot_len (pa_cons (pv 0) pa_nil)) pa_nil)) (pg_name (i := 3) sc__law_code.nd rfl (.inl rfl))
      (pss_cons (ps_set (i := 4) sc__law_code.nd rfl (.inl rfl) (pe_ix (kIxT (K := K) rfl) (pv 0) (pv 3) (fun _ _ => rfl)))
      (pss_cons (ps_set (i := 5) sc__law_code.nd rfl (.inl rfl) (pe_op (kCatT (K := K) rfl) (pv 1) (pe_tup (pa_cons (pv 3) pa_nil))))
      (pss_cons (ps_set (i := 6) sc__law_code.nd rfl (.inl rfl) (pe_callB (kLen (K := K) rfl) (by rfl) B.len PySem.boot_len (pa_cons (pv 2) pa_nil)))
      (pss_cons (ps_expr (pe_bm PySem.F.plainAttrs_list PySem.F.slot_list_append PySem.F.type_list_append mt_append (pv 2) (pa_cons (pe_tup (pa_cons (pe_ix (kIxT (K := K) rfl) (pv 4) pe_int (fun _ _ => rfl)) (pa_cons (pv 5) (pa_cons (pv 4) pa_nil)))) pa_nil)))
      (pss_cons (ps_if (pt_cmpR op_eq (pe_ix (kIxT (K := K) rfl) (pv 4) pe_int (fun _ _ => rfl)) pe_str (nomark _))
        (pss_cons (ps_expr (C8.pe_c c__law_code hr (Nat.le_refl _) (by rfl) (pa_cons (pe_ix (kIxT (K := K) rfl) (pv 4) pe_int (fun _ _ => rfl)) (pa_cons (pe_op (kCatT (K := K) rfl) (pv 5) (pe_tup (pa_cons pe_int pa_nil))) (pa_cons (pv 2) pa_nil)))))
        (pss_cons (ps_set (i := 7) sc__law_code.nd rfl (.inl rfl) (pe_callB (kLen (K := K) rfl) (by rfl) B.len PySem.boot_len (pa_cons (pv 2) pa_nil)))
        (pss_cons (ps_expr (pe_bm PySem.F.plainAttrs_list PySem.F.slot_list_append PySem.F.type_list_append mt_append (pv 2) (pa_cons (pe_tup (pa_cons pe_str (pa_cons (pv 5) (pa_cons pe_int pa_nil)))) pa_nil)))
        (pss_cons (ps_expr (C8.pe_c c__law_code hr (Nat.le_refl _) (by rfl) (pa_cons (pe_ix (kIxT (K := K) rfl) (pv 4) pe_int (fun _ _ => rfl)) (pa_cons (pe_op (kCatT (K := K) rfl) (pv 5) (pe_tup (pa_cons pe_int pa_nil))) (pa_cons (pv 2) pa_nil)))))
        (pss_cons (ps_asg (pe_tup (pa_cons pe_str (pa_cons (pv 5) (pa_cons (pv 4) (pa_cons (pe_op op_add (pv 7) pe_int) pa_nil))))) (pg_sub (pv 2) (pv 6) set_list))
        (pss_one (ps_asg (pe_tup (pa_cons pe_str (pa_cons (pv 5) (pa_cons (pe_callB (kLen (K := K) rfl) (by rfl) B.len PySem.boot_len (pa_cons (pv 2) pa_nil)) pa_nil)))) (pg_sub (pv 2) (pv 7) set_list))))))))
        pss_nil)
      (pss_one (ps_if (pt_cmpR op_eq (pe_ix (kIxT (K := K) rfl) (pv 4) pe_int (fun _ _ => rfl)) pe_str (nomark _))
        (pss_cons (ps_expr (C8.pe_c c__law_code hr (Nat.le_refl _) (by rfl) (pa_cons (pe_ix (kIxT (K := K) rfl) (pv 4) pe_int (fun _ _ => rfl)) (pa_cons (pe_op (kCatT (K := K) rfl) (pv 5) (pe_tup (pa_cons pe_int pa_nil))) (pa_cons (pv 2) pa_nil)))))
        (pss_cons (ps_expr (pe_bm PySem.F.plainAttrs_list PySem.F.slot_list_append PySem.F.type_list_append mt_append (pv 2) (pa_cons (pe_tup (pa_cons pe_str (pa_cons (pv 5) (pa_cons (pv 6) pa_nil)))) pa_nil)))
        (pss_one (ps_asg (pe_tup (pa_cons pe_str (pa_cons (pv 5) (pa_cons (pv 4) (pa_cons (pe_callB (kLen (K := K) rfl) (by rfl) B.len PySem.boot_len (pa_cons (pv 2) pa_nil)) pa_nil))))) (pg_sub (pv 2) (pv 6) set_list)))))
        pss_nil))))))))), ?_⟩
  have szl : (100000 : Nat) ≤ sizeLine := by decide
  have lA := hA.len
  have lds : R.ds.length ≤ clen R := by
    clear hA hp hd q lA
    induction R with
    | nil => exact Nat.le_refl _
    | put b s t ih => simp only [Rs.ds, clen, List.length_cons]; omega
    | say w t ih => simp only [Rs.ds, clen, List.length_cons]; omega
    | ite w a b t _ _ ih => simp only [Rs.ds, clen, List.length_cons]; omega
    | loop w ws b t _ ih => simp only [Rs.ds, clen, List.length_cons]; omega
  have lpre : us.length = pre.length := by rw [hU.len, List.length_map]
  refine ⟨_, rfl, _, _, rfl, .inr hT, _, rfl, by omega, by omega, ?_⟩
  refine for_range (lo := 0) (n := xs.length) (fun j σ H' => ∃ (us' : List V) (rs : Rs) (done : List De) (y3 y4 y5 y6 y7 : Option V), σ = [some (.ref a), some (.ref b), some (.ref L), y3, y4, y5, y6, y7] ∧ But L H H' ∧ H' L = some (.lst us') ∧ DinA K H' us' ((pre ++ done).map De.d) ∧ R.ds.drop j = rs.ds ∧ codeR R ah 0 fr pre.length = done ++ codeR rs ah j fr (pre.length + done.length) ∧ rs.dep ≤ R.dep)
    ⟨us, R, [], none, none, none, none, none, rfl, But.refl _ _, hL, by simpa using hU, by simp, by simp, Nat.le_refl _⟩ (fun j σ H1 hj z => ?_) (fun σ H1 z => ?_)
  · obtain ⟨us1, rs, done, y3, y4, y5, y6, y7, rfl, b1, hL1, hU1, edr, eco, hdp⟩ := z
    have nrs : rs.isNil = false := by
      cases rs with
      | nil =>
        have := congrArg List.length edr
        simp [Rs.ds] at this
        omega
      | _ => rfl
    obtain ⟨rv, erv⟩ : ∃ rv, xs[j]? = some rv := ⟨_, List.getElem?_eq_getElem hj⟩
    obtain ⟨d, ed, hdv⟩ := dinAt hA erv
    have ehd : d = rs.hd := by
      have e1 : (R.ds.drop j)[0]? = some d := by rw [List.getElem?_drop]; exact ed
      rw [edr, Rs.ds_hd nrs] at e1
      exact (Option.some.inj e1).symm
    subst ehd
    have e0 : (0 : Int) + (j : Int) = ((j : Nat) : Int) := by omega
    have atr : atI xs (0 + (j : Int)) = some rv := by
      rw [e0]
      exact atI_nat erv
    have ts1 := butTL b1 hL
    refine ⟨_, rfl, _, rfl, _, _, _, _, rfl, rfl, tsTup ts1 hT, atr, ?_⟩
    refine ⟨_, rfl, _, rfl, by show 1 ≤ sizeLine; decide, fun U nU => ?_⟩
    have sU := sameNew (o := .tup [.int (0 + (j : Int))]) nU
    refine catUse (xs := nats ah) (ys := [.int (0 + (j : Int))]) (tupS sU (tsTup ts1 hb)) (.of upd_same) (by simp [nats]; omega) fun pl H2 s2 hpl => ?_
    have epl : nats ah ++ [V.int (0 + (j : Int))] = nats (ah ++ [j]) := by simp [nats]
    rw [epl] at hpl
    have s12 := Same.trans sU s2
    have hL2 := s12 _ _ hL1
    have hU2 := dinASame s12 hU1
    have b2 := b1.trans (butOf s12)
    have ts2 := butTL b2 hL
    have hdv2 := dinTS ts2 (hdPure rs) hdv
    obtain ⟨ra, rx, rfl, hR, hR0⟩ := hdKind nrs hdv2
    have lU1 : us1.length = pre.length + done.length := by rw [hU1.len, List.length_map, List.length_append]
    have lco := congrArg List.length eco
    rw [codeR_len, List.length_append, codeR_len] at lco
    generalize upd H1 U (.tup [.int (0 + (j : Int))]) = Hx at *
    clear hU1 hL1 b1 ts1 s12 nU sU s2
    -- at_here, and the deed
    refine ⟨_, rfl, _, _, rfl, .inl (.of hL2), ?_⟩
    refine ⟨_, rfl, .inl ⟨rfl, _, .of hL2⟩, _, rfl, _, _, _, _, rfl, rfl, hR, atI_nat hR0, _, rfl, _, rfl, by show 3 ≤ sizeLine; decide, fun T nT => ?_⟩
    have sT := sameNew (o := .tup [.str rs.kind, .ref pl, .ref ra]) nT
    have hL3 := sT _ _ hL2
    refine ⟨L, us1, _, rfl, rfl, hL3, by omega, ?_⟩
    have t24 : TS H2 (upd (upd H2 T (.tup [.str rs.kind, .ref pl, .ref ra])) L (.lst (us1 ++ [.ref T]))) := TS.trans (tsOf sT) (tsLst hL3)
    have b4 : But L H (upd (upd H2 T (.tup [.str rs.kind, .ref pl, .ref ra])) L (.lst (us1 ++ [.ref T]))) := butMut (b2.trans (butOf sT))
    have hL4 : upd (upd H2 T (.tup [.str rs.kind, .ref pl, .ref ra])) L (.lst (us1 ++ [.ref T])) L = some (.lst (us1 ++ [.ref T])) := upd_same
    have hT4 : SqT K (upd (upd H2 T (.tup [.str rs.kind, .ref pl, .ref ra])) L (.lst (us1 ++ [.ref T]))) T [.str rs.kind, .ref pl, .ref ra] := tsTup (tsLst hL3) (.of upd_same)
    generalize upd (upd H2 T (.tup [.str rs.kind, .ref pl, .ref ra])) L (.lst (us1 ++ [.ref T])) = H4 at *
    have hdv4 := dinTS t24 (hdPure rs) hdv2
    have hpl4 := tsTup t24 hpl
    have hR4 := tsTup t24 hR
    have hU4 : DinA K H4 (us1 ++ [.ref T]) ((pre ++ (done ++ [De.row ⟨ah, j, rs, fr⟩])).map De.d) := by
      rw [← List.append_assoc, List.map_append]
      exact dinApp (dinATS t24 (desPure _) hU2) (.cons (.tup hT4 (.cons (.str _) (.cons (dinPc hpl4) (.cons hdv4 .nil)))) .nil)
    clear hU2 hT4 hR hpl hdv2 hL2 hL3 nT
    have lds := congrArg List.length edr
    cases rs with
    | nil => cases nrs
    | put bx sm t =>
      have hR0 : rx[0]? = some (V.str ("put" : Str)) := hR0
      refine ⟨_, rfl, _, _, _, _, rfl, rfl, hR4, atI_nat hR0, rfl, _, rfl, ?_⟩
      rw [decide_eq_false (fun c => absurd (show ("put" : Str) = "if" from strEq.mp c) (by decide +kernel))]
      refine iteF ⟨_, rfl, _, _, _, _, rfl, rfl, hR4, atI_nat hR0, rfl, _, rfl, ?_⟩
      rw [decide_eq_false (fun c => absurd (show ("put" : Str) = "loop" from strEq.mp c) (by decide +kernel))]
      refine iteF ⟨_, t, done ++ [.row ⟨ah, j, .put bx sm t, fr⟩], _, _, _, _, _, rfl, b4, hL4, hU4, ?_, ?_, ?_⟩
      · rw [← List.drop_drop, edr]; rfl
      · rw [eco, List.length_append]; simp [codeR, Nat.add_assoc]
      · simp only [Rs.dep] at hdp; omega
    | say wd t =>
      have hR0 : rx[0]? = some (V.str ("say" : Str)) := hR0
      refine ⟨_, rfl, _, _, _, _, rfl, rfl, hR4, atI_nat hR0, rfl, _, rfl, ?_⟩
      rw [decide_eq_false (fun c => absurd (show ("say" : Str) = "if" from strEq.mp c) (by decide +kernel))]
      refine iteF ⟨_, rfl, _, _, _, _, rfl, rfl, hR4, atI_nat hR0, rfl, _, rfl, ?_⟩
      rw [decide_eq_false (fun c => absurd (show ("say" : Str) = "loop" from strEq.mp c) (by decide +kernel))]
      refine iteF ⟨_, t, done ++ [.row ⟨ah, j, .say wd t, fr⟩], _, _, _, _, _, rfl, b4, hL4, hU4, ?_, ?_, ?_⟩
      · rw [← List.drop_drop, edr]; rfl
      · rw [eco, List.length_append]; simp [codeR, Nat.add_assoc]
      · simp only [Rs.dep] at hdp; omega
    | ite wd ra2 rb2 t =>
      simp only [Rs.dep] at hdp
      cases hdv4 with
      | @tup _ rx _ hR4 hRA =>
      cases hRA with
      | cons k0 kA =>
      cases k0
      cases kA with
      | cons k1 kA =>
      cases kA with
      | cons k2 kA =>
      cases kA with
      | cons k3 kA =>
      cases kA
      cases k2 with
      | @tup aa axs _ g1 g2 =>
      cases k3 with
      | @tup ba bxs _ g3 g4 =>
      have szc : clen (.ite wd ra2 rb2 t) = 2 + clen ra2 + clen rb2 + clen t := rfl
      rw [szc] at lco
      refine ⟨_, rfl, _, _, _, _, rfl, rfl, hR4, atI_nat (j := 0) rfl, rfl, _, rfl, ?_⟩
      rw [decide_eq_true (strEq.mpr rfl)]
      refine iteT ?_
      refine ⟨_, rfl, _, _, _, _, rfl, rfl, hR4, atI_nat (j := 2) rfl, ?_⟩
      refine ⟨_, rfl, by show 1 ≤ sizeLine; decide, fun U5 nU5 => ?_⟩
      have sU5 := sameNew (o := .tup [.int 0]) nU5
      refine catUse (xs := nats (ah ++ [j])) (ys := [.int 0]) (tupS sU5 hpl4) (.of upd_same) (by simp [nats]; omega) fun pl5 H5 s5 hpl5 => ?_
      have s45 := Same.trans sU5 s5
      have e5 : nats (ah ++ [j]) ++ [V.int 0] = nats (ah ++ [j, 0]) := by simp [nats]
      rw [e5] at hpl5
      have hL5 := s45 _ _ hL4
      refine ⟨_, rfl, aa, pl5, L, axs, _, ra2, ah ++ [j, 0], .ifF ah (j + 1) t fr, pre ++ (done ++ [De.row ⟨ah, j, .ite wd ra2 rb2 t, fr⟩]), rfl, tupS s45 g1, dinASame s45 g2, hpl5, hL5, dinASame s45 hU4, by omega, by simp; omega, by simp; omega, fun us6 H6 b6 hL6 hU6 => ?_⟩
      have t46 := TS.trans (tsOf s45) (butTL b6 hL5)
      have b46 := b4.trans ((butOf s45).trans b6)
      have hpl6 := tsTup t46 hpl4
      have hR6 := tsTup t46 hR4
      have lU6 := hU6.len
      rw [List.length_map, List.length_append, codeR_len] at lU6
      simp only [List.length_append, List.length_singleton] at lU6
      generalize upd H4 U5 (.tup [.int 0]) = Hy at *
      -- the middle
      refine ⟨_, rfl, _, _, rfl, .inl (.of hL6), ?_⟩
      refine ⟨_, rfl, .inl ⟨rfl, _, .of hL6⟩, _, rfl, by show 3 ≤ sizeLine; decide, fun T7 nT7 => ?_⟩
      have sT7 := sameNew (o := .tup [.str "jump", .ref pl, .int 0]) nT7
      have hL7 := sT7 _ _ hL6
      refine ⟨L, us6, _, rfl, rfl, hL7, by omega, ?_⟩
      have t68 : TS H6 (upd (upd H6 T7 (.tup [.str "jump", .ref pl, .int 0])) L (.lst (us6 ++ [.ref T7]))) := TS.trans (tsOf sT7) (tsLst hL7)
      have b8 : But L H (upd (upd H6 T7 (.tup [.str "jump", .ref pl, .int 0])) L (.lst (us6 ++ [.ref T7]))) := butMut (b46.trans (butOf sT7))
      have hL8 : upd (upd H6 T7 (.tup [.str "jump", .ref pl, .int 0])) L (.lst (us6 ++ [.ref T7])) L = some (.lst (us6 ++ [.ref T7])) := upd_same
      have hT8 : SqT K (upd (upd H6 T7 (.tup [.str "jump", .ref pl, .int 0])) L (.lst (us6 ++ [.ref T7]))) T7 [.str "jump", .ref pl, .int 0] := tsTup (tsLst hL7) (.of upd_same)
      generalize upd (upd H6 T7 (.tup [.str "jump", .ref pl, .int 0])) L (.lst (us6 ++ [.ref T7])) = H8 at *
      have t48 := TS.trans t46 t68
      have hpl8 := tsTup t48 hpl4
      have hU8 : DinA K H8 (us6 ++ [.ref T7]) ((pre ++ (done ++ [De.row ⟨ah, j, .ite wd ra2 rb2 t, fr⟩]) ++ codeR ra2 (ah ++ [j, 0]) 0 (.ifF ah (j + 1) t fr) (pre ++ (done ++ [De.row ⟨ah, j, .ite wd ra2 rb2 t, fr⟩])).length ++ [De.jump (ah ++ [j]) 0]).map De.d) := by
        rw [List.map_append (l₂ := [_])]
        exact dinApp (dinATS t68 (desPure _) hU6) (.cons (.tup hT8 (.cons (.str _) (.cons (dinPc hpl8) (.cons (.int 0) .nil)))) .nil)
      refine ⟨_, rfl, _, _, _, _, rfl, rfl, tsTup t48 hR4, atI_nat (j := 3) rfl, ?_⟩
      refine ⟨_, rfl, by show 1 ≤ sizeLine; decide, fun U9 nU9 => ?_⟩
      have sU9 := sameNew (o := .tup [.int 1]) nU9
      refine catUse (xs := nats (ah ++ [j])) (ys := [.int 1]) (tupS sU9 hpl8) (.of upd_same) (by simp [nats]; omega) fun pl9 H9 s9 hpl9 => ?_
      have s89 := Same.trans sU9 s9
      have e9 : nats (ah ++ [j]) ++ [V.int 1] = nats (ah ++ [j, 1]) := by simp [nats]
      rw [e9] at hpl9
      have hL9 := s89 _ _ hL8
      have t49 := TS.trans t48 (tsOf s89)
      refine ⟨_, rfl, ba, pl9, L, bxs, _, rb2, ah ++ [j, 1], .ifF ah (j + 1) t fr, _, rfl, tsTup t49 g3, dinATS t49 (rsPure _) g4, hpl9, hL9, dinASame s89 hU8, by omega, by simp; omega, by simp [codeR_len]; omega, fun us10 H10 b10 hL10 hU10 => ?_⟩
      have t410 := TS.trans t49 (butTL b10 hL9)
      have b410 := b8.trans ((butOf s89).trans b10)
      have hpl10 := tsTup t410 hpl4
      have hR10 := tsTup t410 hR4
      have hRd10 : Din K H10 (.ref ra) (Rs.hd (.ite wd ra2 rb2 t)) := .tup hR10 (.cons (.str _) (.cons (dinTS t410 (pureSum _) k1) (.cons (.tup (tsTup t410 g1) (dinATS t410 (rsPure _) g2)) (.cons (.tup (tsTup t410 g3) (dinATS t410 (rsPure _) g4)) .nil))))
      have lU10 := hU10.len
      simp only [List.length_map, List.length_append, codeR_len, List.length_singleton] at lU10
      generalize upd H8 U9 (.tup [.int 1]) = Hz at *
      clear hU8 hU6 hpl8 hpl9 hpl6 hpl5
      -- the deed of the if
      refine ⟨_, rfl, _, rfl, _, rfl, _, _, rfl, rfl, by show 4 ≤ sizeLine; decide, fun T11 nT11 => ?_⟩
      have sT11 := sameNew (o := .tup [.str "if", .ref pl, .ref ra, .int ((us6.length : Int) + 1)]) nT11
      have hL11 := sT11 _ _ hL10
      refine ⟨_, rfl, _, rfl, L, us10, _, us1.length, rfl, rfl, hL11, ixN_nat (by omega), ?_⟩
      have t1012 : TS H10 (upd (upd H10 T11 (.tup [.str "if", .ref pl, .ref ra, .int ((us6.length : Int) + 1)])) L (.lst (us10.set us1.length (.ref T11)))) := TS.trans (tsOf sT11) (tsLst hL11)
      have b12 : But L H (upd (upd H10 T11 (.tup [.str "if", .ref pl, .ref ra, .int ((us6.length : Int) + 1)])) L (.lst (us10.set us1.length (.ref T11)))) := butMut (b410.trans (butOf sT11))
      have hL12 : upd (upd H10 T11 (.tup [.str "if", .ref pl, .ref ra, .int ((us6.length : Int) + 1)])) L (.lst (us10.set us1.length (.ref T11))) L = some (.lst (us10.set us1.length (.ref T11))) := upd_same
      have hT12 : SqT K (upd (upd H10 T11 (.tup [.str "if", .ref pl, .ref ra, .int ((us6.length : Int) + 1)])) L (.lst (us10.set us1.length (.ref T11)))) T11 [.str "if", .ref pl, .ref ra, .int ((us6.length : Int) + 1)] := tsTup (tsLst hL11) (.of upd_same)
      generalize upd (upd H10 T11 (.tup [.str "if", .ref pl, .ref ra, .int ((us6.length : Int) + 1)])) L (.lst (us10.set us1.length (.ref T11))) = H12 at *
      refine ⟨_, rfl, _, rfl, _, _, rfl, .inl (.of hL12), by show 3 ≤ sizeLine; decide, fun T13 nT13 => ?_⟩
      rw [List.length_set]
      have sT13 := sameNew (o := .tup [.str "jump", .ref pl, .int (us10.length : Int)]) nT13
      have hL13 := sT13 _ _ hL12
      refine ⟨_, rfl, _, rfl, L, _, _, us6.length, rfl, rfl, hL13, ixN_nat (by rw [List.length_set]; omega), ?_⟩
      have t1214 : TS H12 (upd (upd H12 T13 (.tup [.str "jump", .ref pl, .int (us10.length : Int)])) L (.lst ((us10.set us1.length (.ref T11)).set us6.length (.ref T13)))) := TS.trans (tsOf sT13) (tsLst hL13)
      have b14 : But L H (upd (upd H12 T13 (.tup [.str "jump", .ref pl, .int (us10.length : Int)])) L (.lst ((us10.set us1.length (.ref T11)).set us6.length (.ref T13)))) := butMut (b12.trans (butOf sT13))
      have hL14 : upd (upd H12 T13 (.tup [.str "jump", .ref pl, .int (us10.length : Int)])) L (.lst ((us10.set us1.length (.ref T11)).set us6.length (.ref T13))) L = some (.lst ((us10.set us1.length (.ref T11)).set us6.length (.ref T13))) := upd_same
      have hT14 : SqT K (upd (upd H12 T13 (.tup [.str "jump", .ref pl, .int (us10.length : Int)])) L (.lst ((us10.set us1.length (.ref T11)).set us6.length (.ref T13)))) T13 [.str "jump", .ref pl, .int (us10.length : Int)] := tsTup (tsLst hL13) (.of upd_same)
      generalize upd (upd H12 T13 (.tup [.str "jump", .ref pl, .int (us10.length : Int)])) L (.lst ((us10.set us1.length (.ref T11)).set us6.length (.ref T13))) = H14 at *
      have t1014 := TS.trans t1012 t1214
      have hpl14 := tsTup t1014 hpl10
      refine ⟨_, rfl, _, _, _, _, rfl, rfl, tsTup t1014 hR10, atI_nat (j := 0) rfl, rfl, _, rfl, ?_⟩
      rw [decide_eq_false (fun c => absurd (show ("if" : Str) = "loop" from strEq.mp c) (by decide +kernel))]
      have hbr : Din K H14 (.ref T11) (De.br ⟨ah, j, .ite wd ra2 rb2 t, fr⟩ (pre.length + done.length + 2 + clen ra2)).d := by
        refine .tup (tsTup t1214 hT12) (.cons (.str _) (.cons (dinPc hpl14) (.cons (dinTS t1014 (hdPure _) hRd10) (.cons ?_ .nil))))
        rw [show ((us6.length : Int) + 1) = ((pre.length + done.length + 2 + clen ra2 : Nat) : Int) by omega]
        exact .int _
      have hju : Din K H14 (.ref T13) (De.jump (ah ++ [j]) (pre.length + done.length + 2 + clen ra2 + clen rb2)).d := by
        refine .tup hT14 (.cons (.str _) (.cons (dinPc hpl14) (.cons ?_ .nil)))
        rw [show us10.length = pre.length + done.length + 2 + clen ra2 + clen rb2 by omega]
        exact .int _
      have hU14 := dinSetD (j := us6.length) (dinSetD (j := us1.length) (dinATS t1014 (desPure _) hU10) hbr) hju
      rw [mapSet, mapSet] at hU14
      have eL : ∀ (A2' B2' : List De) (x1 x2 y1 y2 : De), A2'.length = clen ra2 → ((((pre ++ (done ++ [x1])) ++ A2' ++ [x2]) ++ B2').set us1.length y1).set us6.length y2 = pre ++ (done ++ y1 :: (A2' ++ y2 :: B2')) := by
        intro A2' B2' x1 x2 y1 y2 hl
        rw [show (((pre ++ (done ++ [x1])) ++ A2' ++ [x2]) ++ B2') = (pre ++ done) ++ x1 :: (A2' ++ x2 :: B2') by simp, setMid (by rw [List.length_append]; omega), show (pre ++ done) ++ y1 :: (A2' ++ x2 :: B2') = ((pre ++ done) ++ y1 :: A2') ++ x2 :: B2' by simp, setMid (by simp [hl]; omega)]
        simp
      rw [eL _ _ _ _ _ _ (codeR_len ..)] at hU14
      refine iteF ⟨_, t, _, _, _, _, _, _, rfl, b14, hL14, hU14, ?_, ?_, by omega⟩
      · rw [← List.drop_drop, edr]; rfl
      · rw [eco]
        have l1 : pre.length + (done ++ [De.row ⟨ah, j, .ite wd ra2 rb2 t, fr⟩]).length = pre.length + done.length + 1 := by simp; omega
        simp [codeR, codeR_len, l1]
        rw [show pre.length + (done.length + 1) = pre.length + done.length + 1 by omega, show pre.length + (done.length + (clen ra2 + 1 + 1)) = pre.length + done.length + 2 + clen ra2 by omega, show pre.length + (done.length + (clen ra2 + (clen rb2 + 1) + 1)) = pre.length + done.length + 2 + clen ra2 + clen rb2 by omega]
    | loop wd ws rb2 t =>
      simp only [Rs.dep] at hdp
      cases hdv4 with
      | @tup _ rx _ hR4 hRA =>
      cases hRA with
      | cons k0 kA =>
      cases k0
      cases kA with
      | cons k1 kA =>
      cases kA with
      | cons k2 kA =>
      cases kA with
      | cons k3 kA =>
      cases kA
      cases k3 with
      | @tup ba bxs _ g3 g4 =>
      have szc : clen (.loop wd ws rb2 t) = 2 + clen rb2 + clen t := rfl
      rw [szc] at lco
      refine ⟨_, rfl, _, _, _, _, rfl, rfl, hR4, atI_nat (j := 0) rfl, rfl, _, rfl, ?_⟩
      rw [decide_eq_false (fun c => absurd (show ("loop" : Str) = "if" from strEq.mp c) (by decide +kernel))]
      refine iteF ⟨_, rfl, _, _, _, _, rfl, rfl, hR4, atI_nat (j := 0) rfl, rfl, _, rfl, ?_⟩
      rw [decide_eq_true (strEq.mpr rfl)]
      refine iteT ?_
      refine ⟨_, rfl, _, _, _, _, rfl, rfl, hR4, atI_nat (j := 3) rfl, ?_⟩
      refine ⟨_, rfl, by show 1 ≤ sizeLine; decide, fun U5 nU5 => ?_⟩
      have sU5 := sameNew (o := .tup [.int 0]) nU5
      refine catUse (xs := nats (ah ++ [j])) (ys := [.int 0]) (tupS sU5 hpl4) (.of upd_same) (by simp [nats]; omega) fun pl5 H5 s5 hpl5 => ?_
      have s45 := Same.trans sU5 s5
      have e5 : nats (ah ++ [j]) ++ [V.int 0] = nats (ah ++ [j, 0]) := by simp [nats]
      rw [e5] at hpl5
      have hL5 := s45 _ _ hL4
      refine ⟨_, rfl, ba, pl5, L, bxs, _, rb2, ah ++ [j, 0], .loopF ah j wd ws rb2 t fr, pre ++ (done ++ [De.row ⟨ah, j, .loop wd ws rb2 t, fr⟩]), rfl, tupS s45 g3, dinASame s45 g4, hpl5, hL5, dinASame s45 hU4, by omega, by simp; omega, by simp; omega, fun us6 H6 b6 hL6 hU6 => ?_⟩
      have t46 := TS.trans (tsOf s45) (butTL b6 hL5)
      have b46 := b4.trans ((butOf s45).trans b6)
      have hpl6 := tsTup t46 hpl4
      have lU6 := hU6.len
      rw [List.length_map, List.length_append, codeR_len] at lU6
      simp only [List.length_append, List.length_singleton] at lU6
      generalize upd H4 U5 (.tup [.int 0]) = Hy at *
      refine ⟨_, rfl, .inl ⟨rfl, _, .of hL6⟩, _, rfl, _, rfl, by show 3 ≤ sizeLine; decide, fun T7 nT7 => ?_⟩
      have sT7 := sameNew (o := .tup [.str "jump", .ref pl, .int (us1.length : Int)]) nT7
      have hL7 := sT7 _ _ hL6
      refine ⟨L, us6, _, rfl, rfl, hL7, by omega, ?_⟩
      have t68 : TS H6 (upd (upd H6 T7 (.tup [.str "jump", .ref pl, .int (us1.length : Int)])) L (.lst (us6 ++ [.ref T7]))) := TS.trans (tsOf sT7) (tsLst hL7)
      have b8 : But L H (upd (upd H6 T7 (.tup [.str "jump", .ref pl, .int (us1.length : Int)])) L (.lst (us6 ++ [.ref T7]))) := butMut (b46.trans (butOf sT7))
      have hL8 : upd (upd H6 T7 (.tup [.str "jump", .ref pl, .int (us1.length : Int)])) L (.lst (us6 ++ [.ref T7])) L = some (.lst (us6 ++ [.ref T7])) := upd_same
      have hT8 : SqT K (upd (upd H6 T7 (.tup [.str "jump", .ref pl, .int (us1.length : Int)])) L (.lst (us6 ++ [.ref T7]))) T7 [.str "jump", .ref pl, .int (us1.length : Int)] := tsTup (tsLst hL7) (.of upd_same)
      generalize upd (upd H6 T7 (.tup [.str "jump", .ref pl, .int (us1.length : Int)])) L (.lst (us6 ++ [.ref T7])) = H8 at *
      have t48 := TS.trans t46 t68
      have hpl8 := tsTup t48 hpl4
      have hU8 : DinA K H8 (us6 ++ [.ref T7]) ((pre ++ (done ++ [De.row ⟨ah, j, .loop wd ws rb2 t, fr⟩]) ++ codeR rb2 (ah ++ [j, 0]) 0 (.loopF ah j wd ws rb2 t fr) (pre ++ (done ++ [De.row ⟨ah, j, .loop wd ws rb2 t, fr⟩])).length ++ [De.jump (ah ++ [j]) us1.length]).map De.d) := by
        rw [List.map_append (l₂ := [_])]
        exact dinApp (dinATS t68 (desPure _) hU6) (.cons (.tup hT8 (.cons (.str _) (.cons (dinPc hpl8) (.cons (.int _) .nil)))) .nil)
      refine ⟨_, rfl, _, rfl, _, rfl, _, _, rfl, .inl (.of hL8), by show 4 ≤ sizeLine; decide, fun T11 nT11 => ?_⟩
      have sT11 := sameNew (o := .tup [.str "loop", .ref pl, .ref ra, .int ((us6 ++ [V.ref T7]).length : Int)]) nT11
      have hL11 := sT11 _ _ hL8
      refine ⟨_, rfl, _, rfl, L, _, _, us1.length, rfl, rfl, hL11, ixN_nat (by rw [List.length_append]; omega), ?_⟩
      have t812 : TS H8 (upd (upd H8 T11 (.tup [.str "loop", .ref pl, .ref ra, .int ((us6 ++ [V.ref T7]).length : Int)])) L (.lst ((us6 ++ [V.ref T7]).set us1.length (.ref T11)))) := TS.trans (tsOf sT11) (tsLst hL11)
      have b12 : But L H (upd (upd H8 T11 (.tup [.str "loop", .ref pl, .ref ra, .int ((us6 ++ [V.ref T7]).length : Int)])) L (.lst ((us6 ++ [V.ref T7]).set us1.length (.ref T11)))) := butMut (b8.trans (butOf sT11))
      have hL12 : upd (upd H8 T11 (.tup [.str "loop", .ref pl, .ref ra, .int ((us6 ++ [V.ref T7]).length : Int)])) L (.lst ((us6 ++ [V.ref T7]).set us1.length (.ref T11))) L = some (.lst ((us6 ++ [V.ref T7]).set us1.length (.ref T11))) := upd_same
      have hT12 : SqT K (upd (upd H8 T11 (.tup [.str "loop", .ref pl, .ref ra, .int ((us6 ++ [V.ref T7]).length : Int)])) L (.lst ((us6 ++ [V.ref T7]).set us1.length (.ref T11)))) T11 [.str "loop", .ref pl, .ref ra, .int ((us6 ++ [V.ref T7]).length : Int)] := tsTup (tsLst hL11) (.of upd_same)
      generalize upd (upd H8 T11 (.tup [.str "loop", .ref pl, .ref ra, .int ((us6 ++ [V.ref T7]).length : Int)])) L (.lst ((us6 ++ [V.ref T7]).set us1.length (.ref T11))) = H12 at *
      have t412 := TS.trans t48 t812
      have hpl12 := tsTup t412 hpl4
      have hR12 := tsTup t412 hR4
      have hRd12 : Din K H12 (.ref ra) (Rs.hd (.loop wd ws rb2 t)) := .tup hR12 (.cons (.str _) (.cons (dinTS t412 (pureSum _) k1) (.cons (dinTS t412 (pureSums _) k2) (.cons (.tup (tsTup t412 g3) (dinATS t412 (rsPure _) g4)) .nil))))
      have hbr : Din K H12 (.ref T11) (De.br ⟨ah, j, .loop wd ws rb2 t, fr⟩ (pre.length + done.length + 2 + clen rb2)).d := by
        refine .tup hT12 (.cons (.str _) (.cons (dinPc hpl12) (.cons hRd12 (.cons ?_ .nil))))
        rw [show (us6 ++ [V.ref T7]).length = pre.length + done.length + 2 + clen rb2 by rw [List.length_append, List.length_singleton]; omega]
        exact .int _
      have hU12 := dinSetD (j := us1.length) (dinATS t812 (desPure _) hU8) hbr
      rw [mapSet] at hU12
      have eL : ∀ (A2' : List De) (x1 x2 y1 : De), (((pre ++ (done ++ [x1])) ++ A2' ++ [x2])).set us1.length y1 = pre ++ (done ++ y1 :: (A2' ++ [x2])) := by
        intro A2' x1 x2 y1
        rw [show ((pre ++ (done ++ [x1])) ++ A2' ++ [x2]) = (pre ++ done) ++ x1 :: (A2' ++ [x2]) by simp, setMid (by rw [List.length_append]; omega)]
        simp
      rw [eL] at hU12
      refine ⟨_, t, _, _, _, _, _, _, rfl, b12, hL12, hU12, ?_, ?_, by omega⟩
      · rw [← List.drop_drop, edr]; rfl
      · rw [eco]
        have l1 : pre.length + (done ++ [De.row ⟨ah, j, .loop wd ws rb2 t, fr⟩]).length = pre.length + done.length + 1 := by simp; omega
        simp [codeR, codeR_len, l1]
        rw [show pre.length + (done.length + 1) = pre.length + done.length + 1 by omega, show us1.length = pre.length + done.length by omega, show pre.length + (done.length + (clen rb2 + 1 + 1)) = pre.length + done.length + 2 + clen rb2 by omega]
  · obtain ⟨us1, rs, done, y3, y4, y5, y6, y7, rfl, b1, hL1, hU1, edr, eco, hdp⟩ := z
    have : rs = .nil := by
      cases rs with
      | nil => rfl
      | _ =>
        have := congrArg List.length edr
        simp [Rs.ds] at this
        omega
    subst this
    rw [codeR, List.append_nil] at eco
    refine q us1 H1 b1 hL1 ?_
    rw [eco]
    exact hU1

theorem unit_N {m b : Nat} {n more : Int} (h : b < m) : unitOf m b n more = (unitN n b m, more) := by
  unfold unitOf unitN
  congr 1
  refine List.ext_getElem (by simp) fun j h1 h2 => ?_
  simp only [List.getElem_set, List.getElem_map, List.getElem_range, List.getElem_replicate]
  by_cases e : b = j
  · rw [if_pos e, if_pos e.symm]
  · rw [if_neg e, if_neg (fun z => e z.symm)]
abbrev s__law_asked : Stmt := topS 68
theorem sc__law_asked : FnScope ["_law_row_here", "_law_tops_here", "_law_words", "_law_k"] ["_law_row_here", "_law_tops_here"] (defScope s__law_asked) := ⟨rfl, rfl, rfl, by decide +kernel, rfl, by decide +kernel, by decide +kernel⟩

def spLAsk (K : PySem.W.Frag) : Sp := fun vs H Q _ => ∃ (rv : V) (tl : Addr) (tops : List Int) (rs : Rs), vs = [rv, .ref tl] ∧ Din K H rv rs.hd ∧ H tl = some (.lst (tops.map V.int)) ∧ ((∃ w t, rs = .say w t) ∨ ∃ w ws b t, rs = .loop w ws b t ∧ ws.length ≤ 3) ∧ tops.length ≤ 3 ∧
  ∀ (l : Addr) (us : List V) (H' : Hp), H l = none → Same H H' → H' l = some (.lst us) → A2 (SumIn K H') us (askP tops rs) → Q (.ref l) H'
theorem ok__law_asked {f : Addr} {fd : FuncData} {k : Nat} (F : Fun K "_law_asked" "_law_asked" s__law_asked f fd) (B : Bl mg) (c__law_unit : C8.Cal P w K mg base k "_law_unit" (spUnit K) []) : FnOk P w K mg base CX0 (k + 1) f fd ["_law_row_here", "_law_tops_here"] (spLAsk K) := by
  refine F.ok sc__law_asked (fun vs H Q E h => ?_) (fun cdv A outer s H vs Q E hr h => ?_)
  · obtain ⟨rv, tl, tops, rs, rfl, _⟩ := h
    rfl
  obtain ⟨rv, tl, tops, rs, rfl, hv, htl, hk, ht3, q⟩ := h
  refine ⟨_, (pss_cons (ps_if (pt_cmpR op_eq (pe_ix (kIxT (K := K) rfl) (pv 0) pe_int (fun _ _ => rfl)) pe_str (nomark _))
      (pss_one (ps_ret (pe_lst (pa_cons (pe_ix (kIxT (K := K) rfl) (pv 0) pe_int (fun _ _ => rfl)) pa_nil))))
      pss_nil)
    (pss_cons (ps_set (i := 2) sc__law_asked.nd rfl (.inl rfl) (pe_callTy (kList (K := K) rfl) (by rfl) B.list (by decide +kernel) (pa_cons (pe_ix (kIxT (K := K) rfl) (pv 0) pe_int (fun _ _ => rfl)) pa_nil)))
    (pss_cons (ps_for PassesOwn.never rfl (pi_range1 (by rfl) B.range (pa_cons (pe_callB (kLen (K := K) rfl) (by rfl) B.len PySem.boot_len (pa_cons (pv 1) pa_nil)) pa_nil)) (pg_name (i := 3) sc__law_asked.nd rfl (.inl rfl))
      (pss_cons (ps_expr (pe_bm PySem.F.plainAttrs_list PySem.F.slot_list_append PySem.F.type_list_append mt_append (pv 2) (pa_cons (C8.pe_c c__law_unit hr (Nat.le_refl _) (by rfl) (pa_cons (pe_callB (kLen (K := K) rfl) (by rfl) B.len PySem.boot_len (pa_cons (pv 1) pa_nil)) (pa_cons (pv 3) (pa_cons (pe_un un_neg pe_int) (pa_cons pe_int pa_nil))))) pa_nil)))
      (pss_one (ps_expr (pe_bm PySem.F.plainAttrs_list PySem.F.slot_list_append PySem.F.type_list_append mt_append (pv 2) (pa_cons (C8.pe_c c__law_unit hr (Nat.le_refl _) (by rfl) (pa_cons (pe_callB (kLen (K := K) rfl) (by rfl) B.len PySem.boot_len (pa_cons (pv 1) pa_nil)) (pa_cons (pv 3) (pa_cons pe_int (pa_cons (pe_un un_neg (pe_ix (kIxL (K := K) rfl) (pv 1) (pv 3) (fun _ _ => rfl))) pa_nil))))) pa_nil))))))
    (pss_one (ps_ret (pv 2)))))), ?_⟩
  have szl : (1000 : Nat) < sizeLine := by decide
  rcases hk with ⟨w, t, rfl⟩ | ⟨w, ws, b, t, rfl, lws⟩
  · cases hv with
    | @tup ra rx _ hR hRA =>
    cases hRA with
    | cons k0 kA =>
    cases k0
    cases kA with
    | cons k1 kA =>
    cases kA
    refine ⟨_, rfl, _, _, _, _, rfl, rfl, hR, atI_nat (j := 0) rfl, rfl, _, rfl, ?_⟩
    rw [decide_eq_true (strEq.mpr rfl)]
    refine iteT ⟨_, rfl, _, _, _, _, rfl, rfl, hR, atI_nat (j := 1) rfl, by show 1 ≤ sizeLine; decide, fun l nl => ?_⟩
    exact q l _ _ nl (sameNew nl) upd_same (.cons (SumIn.mono (sameNew nl) (sumDin k1)) .nil)
  · cases hv with
    | @tup ra rx _ hR hRA =>
    cases hRA with
    | cons k0 kA =>
    cases k0
    cases kA with
    | cons k1 kA =>
    cases kA with
    | cons k2 kA =>
    cases k2 with
    | @tup wa wx _ hWT hWA =>
    have hWs := sumsDin hWA
    have lwx := hWs.len
    refine ⟨_, rfl, _, _, _, _, rfl, rfl, hR, atI_nat (j := 0) rfl, rfl, _, rfl, ?_⟩
    rw [decide_eq_false (fun c => absurd (show ("loop" : Str) = "say" from strEq.mp c) (by decide +kernel))]
    refine iteF ?_
    refine ⟨_, rfl, _, _, _, _, rfl, rfl, hR, atI_nat (j := 2) rfl, wa, wx, rfl, .inr hWT, fun L nL => ?_⟩
    have sL := sameNew (o := .lst wx) nL
    have htl3 := sL _ _ htl
    have hL3 : upd H L (.lst wx) L = some (.lst wx) := upd_same
    have hU3 := sumsS (tsOf sL) hWs
    have nLt : tl ≠ L := fun e => by rw [← e, htl] at nL; cases nL
    generalize upd H L (.lst wx) = H3 at *
    refine ⟨_, rfl, _, _, rfl, .inl (.of htl3), _, rfl, by rw [List.length_map]; omega, by rw [List.length_map]; omega, ?_⟩
    refine for_range (lo := 0) (n := (tops.map V.int).length) (fun j σ H' => ∃ (us : List V) (y3 : Option V), σ = [some (.ref ra), some (.ref tl), some (.ref L), y3] ∧ Same H H' ∧ H' tl = some (.lst (tops.map V.int)) ∧ H' L = some (.lst us) ∧ A2 (SumIn K H') us (ws ++ bnd' tops.length (tops.take j)))
      ⟨wx, none, rfl, sL, htl3, hL3, by simpa [bnd'] using hU3⟩ (fun j σ H4 hj z => ?_) (fun σ H4 z => ?_)
    · obtain ⟨us, y3, rfl, sm, ht, hl, hu⟩ := z
      have hj1 : j < tops.length := by simpa using hj
      have ltm : (tops.map V.int).length = tops.length := List.length_map _
      have lus := hu.len
      have lb : (bnd' tops.length (tops.take j)).length ≤ 6 := by
        have : (bnd' tops.length (tops.take j)).length = 2 * (tops.take j).length := by
          rw [show bnd' tops.length (tops.take j) = (tops.take j).zipIdx.flatMap fun q => [((unitN (-1) q.2 tops.length, 0) : Sm), (unitN 1 q.2 tops.length, -q.1)] from rfl, bnd_key, List.length_zipIdx]
        rw [this, List.length_take]
        omega
      rw [List.length_append] at lus
      have ej : ((0 : Int) + (j : Int)).toNat = j := by omega
      refine ⟨_, rfl, .inl ⟨rfl, _, .of hl⟩, _, rfl, _, _, rfl, .inl (.of ht), _, rfl, _, rfl, (tops.map V.int).length, _, -1, 0, rfl, by omega, by omega, by omega, fun H5 v s5 hv => ?_⟩
      refine ⟨L, us, _, rfl, rfl, s5 _ _ hl, by omega, ?_⟩
      rw [ej, ltm, unit_N hj1] at hv
      have hl5 := s5 _ _ hl
      have t6 : TS H4 (upd H5 L (.lst (us ++ [v]))) := TS.trans (tsOf s5) (tsLst hl5)
      have hv6 := tsSum (tsLst (ys := us ++ [v]) hl5) hv
      have ht6 : upd H5 L (.lst (us ++ [v])) tl = some (.lst (tops.map V.int)) := by rw [upd_ne nLt]; exact s5 _ _ ht
      have hl6 : upd H5 L (.lst (us ++ [v])) L = some (.lst (us ++ [v])) := upd_same
      have sm6 : Same H (upd H5 L (.lst (us ++ [v]))) := sameMut (Same.trans sm s5) nL
      have hu6 := sumsS t6 hu
      generalize upd H5 L (.lst (us ++ [v])) = H6 at *
      refine ⟨_, rfl, .inl ⟨rfl, _, .of hl6⟩, _, rfl, _, _, rfl, .inl (.of ht6), _, rfl, _, rfl, _, rfl, _, _, _, _, rfl, rfl, .of ht6, at_of (by omega) (intAt hj1), ?_⟩
      refine ⟨_, rfl, (tops.map V.int).length, _, 1, _, rfl, by omega, by omega, by omega, fun H7 v2 s7 hv2 => ?_⟩
      refine ⟨L, us ++ [v], _, rfl, rfl, s7 _ _ hl6, by rw [List.length_append, List.length_singleton]; omega, ?_⟩
      rw [ej, ltm, unit_N hj1] at hv2
      have hl7 := s7 _ _ hl6
      have t8 : TS H6 (upd H7 L (.lst (us ++ [v] ++ [v2]))) := TS.trans (tsOf s7) (tsLst hl7)
      refine ⟨us ++ [v] ++ [v2], _, rfl, sameMut (Same.trans sm6 s7) nL, by rw [upd_ne nLt]; exact s7 _ _ ht6, upd_same, ?_⟩
      rw [bnd_take (List.getElem?_eq_getElem hj1), ← List.append_assoc]
      have h2 := (sumsS t8 hu6).app (.cons (tsSum t8 hv6) (.cons (tsSum (tsLst hl7) hv2) .nil))
      rw [show us ++ [v, v2] = us ++ [v] ++ [v2] by simp] at h2
      exact h2
    · obtain ⟨us, y3, rfl, sm, ht, hl, hu⟩ := z
      rw [List.length_map, List.take_length, ← bnd_eq] at hu
      exact ⟨_, rfl, q L us H4 nL sm hl hu⟩


theorem kindIn {rs : Rs} (n : rs.isNil = false) : flatV (.str rs.kind) = true ∧ inV (.str rs.kind) [.str "if", .str "loop"] = (match rs with | .ite .. => true | .loop .. => true | _ => false) := by
  cases rs with
  | nil => cases n
  | _ => simp only [Rs.kind]; decide +kernel
theorem fr_deep {R : Rs} {ah : List Nat} {i : Nat} {rs : Rs} {fr : Fr} (h : At R ah i rs fr) : ah.length = 2 * frD fr := by
  induction h with
  | top => rfl
  | put h ih => exact ih
  | say h ih => exact ih
  | ite h ih => exact ih
  | loop h ih => exact ih
  | ifA h ih => simp only [List.length_append, List.length_cons, List.length_nil, frD]; omega
  | ifB h ih => simp only [List.length_append, List.length_cons, List.length_nil, frD]; omega
  | body h ih => simp only [List.length_append, List.length_cons, List.length_nil, frD]; omega

abbrev s__law_value : Stmt := topS 59
theorem sc__law_value : FnScope ["_law_one", "_law_filling_here", "_law_found", "_law_k"] ["_law_one", "_law_filling_here"] (defScope s__law_value) := ⟨rfl, rfl, rfl, by decide +kernel, rfl, by decide +kernel, by decide +kernel⟩

theorem ok__law_value {f : Addr} {fd : FuncData} {k : Nat} (F : Fun K "_law_value" "_law_value" s__law_value f fd) (B : Bl mg) : FnOk P w K mg base CX0 (k + 1) f fd ["_law_one", "_law_filling_here"] (spValue K) := by
  refine F.ok sc__law_value (fun vs H Q E h => ?_) (fun cdv A outer s H vs Q E hr h => ?_)
  · obtain ⟨v, f, s, xs, rfl, _⟩ := h
    rfl
  obtain ⟨v, f, ⟨ns, m⟩, xs, rfl, ⟨a, t, rfl, h1, h2⟩, hF, hl, hz, w1, w2, q⟩ := h
  dsimp only at h1 h2 hl w1 w2 q
  refine ⟨_, (pss_cons (ps_set (i := 2) sc__law_value.nd rfl (.inl rfl) (pe_ix (kIxT (K := K) rfl) (pv 0) pe_int (fun _ _ => rfl)))
    (pss_cons (ps_for PassesOwn.never rfl (pi_range1 (by rfl) B.range (pa_cons (pe_callB (kLen (K := K) rfl) (by rfl) B.len PySem.boot_len (pa_cons (pv 1) pa_nil)) pa_nil)) (pg_name (i := 3) sc__law_value.nd rfl (.inl rfl))
      (pss_one (ps_set (i := 2) sc__law_value.nd rfl (.inl rfl) (pe_op op_add (pv 2) (pe_op op_mulW (pe_ix (kIxT (K := K) rfl) (pe_ix (kIxT (K := K) rfl) (pv 0) pe_int (fun _ _ => rfl)) (pv 3) (fun _ _ => rfl)) (pe_ix (kIxL (K := K) rfl) (pv 1) (pv 3) (fun _ _ => rfl)))))))
    (pss_one (ps_ret (pv 2))))), ?_⟩
  have lx : (xs.map V.int).length = xs.length := List.length_map _
  refine ⟨_, rfl, _, _, _, _, rfl, rfl, h1, atI_nat (j := 1) rfl, _, rfl, _, _, rfl, .inl hF, _, rfl, by omega, by omega, ?_⟩
  refine for_range (lo := 0) (n := ((xs.map V.int).length : Int).toNat) (fun i σ H' => H' = H ∧ ∃ y, σ = [some (.ref a), some (.ref f), some (.int (m + dot (ns.take i) (xs.take i))), y]) ⟨rfl, none, by simp [dot]; rfl⟩ (fun i σ H' hi p => ?_) (fun σ H' p => ?_)
  · obtain ⟨rfl, y, rfl⟩ := p
    have i1 : i < xs.length := by omega
    have i0 : i < ns.length := by omega
    refine ⟨_, rfl, _, rfl, _, _, _, _, rfl, rfl, h1, atI_nat (j := 0) rfl, _, rfl, _, _, _, _, rfl, rfl, h2, at_of (by omega) (intAt i0), _, rfl, _, rfl, _, _, _, _, rfl, rfl, hF, at_of (by omega) (intAt i1), ?_⟩
    refine ⟨_, _, rfl, rfl, Wd.mulOk (w1 _ (List.getElem_mem _)) (w2 _ (List.getElem_mem _)) (by decide) (by decide) (by decide), _, _, rfl, rfl, rfl, some (.int (0 + (i : Int))), ?_⟩
    rw [dot_take (List.getElem?_eq_getElem i0) (List.getElem?_eq_getElem i1), ← Int.add_assoc]
    rfl
  · obtain ⟨rfl, y, rfl⟩ := p
    refine ⟨_, rfl, ?_⟩
    have e : ((xs.map V.int).length : Int).toNat = xs.length := by omega
    rw [e, List.take_of_length_le (by omega), List.take_of_length_le (by omega)]
    exact q _ (Same.refl _)

theorem dinIntsEq {H : Hp} : ∀ {ns : List Int} {xs : List V}, DinA K H xs (ns.map D.int) → xs = ns.map V.int
  | [], _, .nil => rfl
  | n :: ns, _, .cons h t => by
    cases h
    rw [dinIntsEq t]
    rfl
theorem codeHere {R : Rs} {ah : List Nat} {i : Nat} {rs : Rs} {fr : Fr} {j : Nat} (h : AtC R ah i rs fr j) (n : rs.isNil = false) : (codeOf R)[j]? = some (deAt ⟨ah, i, rs, fr⟩ j) := by
  obtain ⟨f, r, ec, l, en⟩ := h.split
  obtain ⟨t, et⟩ := code_hd n ah i fr j
  rw [ec, et, ← l]
  simp
/-- a row done on held numbers; where one comes to -/
def stepH (p : Pos') (hs : List Int) : List Int := match p.rs with
  | .put b s _ => hs.set b (val s hs)
  | _ => hs
def nxtP (p : Pos') (hs : List Int) : Option Pos' := match p.rs with
  | .put .. => p.next
  | .say .. => p.next
  | _ => p.go (decide (val (wordOf p.rs) hs ≤ 0))
def Arrd (R : Rs) (o : Option Pos') (j : Nat) : Prop := (∃ p, o = some p ∧ AtC R p.ah p.i p.rs p.fr j ∧ p.rs.isNil = false) ∨ (o = none ∧ j = (codeOf R).length)
def CodeIn (K : PySem.W.Frag) (H : Hp) (L : Addr) (R : Rs) : Prop := ∃ us, H L = some (.lst us) ∧ DinA K H us ((codeOf R).map De.d)
theorem CodeIn.same {H H' : Hp} {L : Addr} {R : Rs} (e : Same H H') (h : CodeIn K H L R) : CodeIn K H' L R := by
  obtain ⟨us, h1, h2⟩ := h
  exact ⟨us, e _ _ h1, dinASame e h2⟩
theorem CodeIn.at_ {H : Hp} {L : Addr} {R : Rs} {j : Nat} {d : De} (h : CodeIn K H L R) (e : (codeOf R)[j]? = some d) : ∃ us v, H L = some (.lst us) ∧ us.length = (codeOf R).length ∧ us[j]? = some v ∧ Din K H v d.d := by
  obtain ⟨us, h1, h2⟩ := h
  obtain ⟨v, h3, h4⟩ := dinAtD h2 (i := j) (d := d.d) (by rw [List.getElem?_map, e]; rfl)
  exact ⟨us, v, h1, by rw [h2.len, List.length_map], h3, h4⟩
/-- what stands at an index -/
theorem deJump {H : Hp} {v : V} {pl : List Nat} {to : Nat} (h : Din K H v (De.jump pl to).d) : ∃ a x, v = .ref a ∧ SqT K H a [.str "jump", x, .int (to : Nat)] := by
  cases h with
  | @tup a xs _ hT hA =>
  cases hA with
  | cons k0 hA =>
  cases k0
  cases hA with
  | cons k1 hA =>
  cases hA with
  | cons k2 hA =>
  cases k2
  cases hA
  exact ⟨_, _, rfl, hT⟩
/-- the deed at a row: its kind, its place, the row, and where to turn -/
theorem deRow {H : Hp} {v : V} {p : Pos'} {j : Nat} (n : p.rs.isNil = false) (h : Din K H v (deAt p j).d) : ∃ a pa ra rx xs, v = .ref a ∧ SqT K H a (.str p.rs.kind :: .ref pa :: .ref ra :: xs) ∧ SqT K H pa (nats (p.ah ++ [p.i])) ∧ SqT K H ra rx ∧ Din K H (.ref ra) p.rs.hd ∧
    (∀ w a b t, p.rs = .ite w a b t → xs = [.int ((j + 2 + clen a : Nat) : Int)]) ∧ (∀ w ws b t, p.rs = .loop w ws b t → xs = [.int ((j + 2 + clen b : Nat) : Int)]) := by
  have key : ∀ (ds : List D), Din K H v (.tup (.str p.rs.kind :: dPc (p.ah ++ [p.i]) :: p.rs.hd :: ds)) → ∃ a pa ra rx xs, v = .ref a ∧ SqT K H a (.str p.rs.kind :: .ref pa :: .ref ra :: xs) ∧ SqT K H pa (nats (p.ah ++ [p.i])) ∧ SqT K H ra rx ∧ Din K H (.ref ra) p.rs.hd ∧ DinA K H xs ds := fun ds h => by
    cases h with
    | @tup a xs _ hT hA =>
    cases hA with
    | cons k0 hA =>
    cases k0
    cases hA with
    | cons k1 hA =>
    cases hA with
    | cons k2 hA =>
    obtain ⟨ra, rx, rfl, hR, _⟩ := hdKind n k2
    cases k1 with
    | @tup pa px _ hP k1A =>
    have e : px = nats (p.ah ++ [p.i]) := by
      have := dinIntsEq (ns := (p.ah ++ [p.i]).map fun n : Nat => (n : Int)) (by rw [List.map_map]; exact k1A)
      rw [this, nats, List.map_map]
      rfl
    rw [e] at hP
    exact ⟨a, pa, ra, rx, _, rfl, hT, hP, hR, k2, hA⟩
  obtain ⟨ah, i, rs, fr⟩ := p
  cases rs with
  | nil => cases n
  | put b s t =>
    obtain ⟨a, pa, ra, rx, xs, h1, h2, h3, h4, h5, h6⟩ := key [] h
    exact ⟨a, pa, ra, rx, xs, h1, h2, h3, h4, h5, (fun _ _ _ _ e => by cases e), (fun _ _ _ _ e => by cases e)⟩
  | say w t =>
    obtain ⟨a, pa, ra, rx, xs, h1, h2, h3, h4, h5, h6⟩ := key [] h
    exact ⟨a, pa, ra, rx, xs, h1, h2, h3, h4, h5, (fun _ _ _ _ e => by cases e), (fun _ _ _ _ e => by cases e)⟩
  | ite w a b t =>
    obtain ⟨a', pa, ra, rx, xs, h1, h2, h3, h4, h5, h6⟩ := key [.int ((j + 2 + clen a : Nat) : Int)] h
    refine ⟨a', pa, ra, rx, xs, h1, h2, h3, h4, h5, (fun _ _ _ _ e => ?_), (fun _ _ _ _ e => by cases e)⟩
    cases e
    cases h6 with
    | cons k h6 =>
    cases k
    cases h6
    rfl
  | loop w ws b t =>
    obtain ⟨a', pa, ra, rx, xs, h1, h2, h3, h4, h5, h6⟩ := key [.int ((j + 2 + clen b : Nat) : Int)] h
    refine ⟨a', pa, ra, rx, xs, h1, h2, h3, h4, h5, (fun _ _ _ _ e => by cases e), (fun _ _ _ _ e => ?_)⟩
    cases e
    cases h6 with
    | cons k h6 =>
    cases k
    cases h6
    rfl
/-- the parts of a row -/
theorem hdPut {H : Hp} {ra : Addr} {b : Nat} {s : Sm} {t : Rs} (h : Din K H (.ref ra) (Rs.put b s t).hd) : ∃ v, SqT K H ra [.str "put", .int (b : Nat), v] ∧ SumIn K H v s := by
  cases h with
  | @tup a xs _ hT hA =>
  cases hA with
  | cons k0 hA =>
  cases k0
  cases hA with
  | cons k1 hA =>
  cases k1
  cases hA with
  | cons k2 hA =>
  cases hA
  exact ⟨_, hT, sumDin k2⟩
theorem hdWord {H : Hp} {ra : Addr} {rs : Rs} (n : rs.isNil = false) (np : ∀ b s t, rs ≠ .put b s t) (h : Din K H (.ref ra) rs.hd) : ∃ v xs, SqT K H ra (.str rs.kind :: v :: xs) ∧ SumIn K H v (wordOf rs) := by
  cases rs with
  | nil => cases n
  | put b s t => exact absurd rfl (np b s t)
  | _ =>
    cases h with
    | @tup a xs _ hT hA =>
    cases hA with
    | cons k0 hA =>
    cases k0
    cases hA with
    | cons k1 hA =>
    exact ⟨_, _, hT, sumDin k1⟩
theorem kindIs (rs : Rs) : (rs.kind = ("put" : Str) ↔ ∃ b s t, rs = .put b s t) ∧ (rs.kind = ("say" : Str) ↔ ∃ w t, rs = .say w t) ∧ (rs.kind = ("if" : Str) ↔ ∃ w a b t, rs = .ite w a b t) ∧ (rs.kind = ("loop" : Str) ↔ ∃ w ws b t, rs = .loop w ws b t) ∧ rs.kind ≠ ("jump" : Str) := by
  have k : ("" : Str) ≠ "put" ∧ ("" : Str) ≠ "say" ∧ ("" : Str) ≠ "if" ∧ ("" : Str) ≠ "loop" ∧ ("" : Str) ≠ "jump" ∧ ("put" : Str) ≠ "say" ∧ ("put" : Str) ≠ "if" ∧ ("put" : Str) ≠ "loop" ∧ ("put" : Str) ≠ "jump" ∧ ("say" : Str) ≠ "if" ∧ ("say" : Str) ≠ "loop" ∧ ("say" : Str) ≠ "jump" ∧ ("if" : Str) ≠ "loop" ∧ ("if" : Str) ≠ "jump" ∧ ("loop" : Str) ≠ "jump" := by decide +kernel
  obtain ⟨k1, k2, k3, k4, k5, k6, k7, k8, k9, k10, k11, k12, k13, k14, k15⟩ := k
  cases rs with
  | nil => exact ⟨⟨fun e => absurd e k1, fun ⟨_, _, _, e⟩ => by cases e⟩, ⟨fun e => absurd e k2, fun ⟨_, _, e⟩ => by cases e⟩, ⟨fun e => absurd e k3, fun ⟨_, _, _, _, e⟩ => by cases e⟩, ⟨fun e => absurd e k4, fun ⟨_, _, _, _, e⟩ => by cases e⟩, k5⟩
  | put b s t => exact ⟨⟨fun _ => ⟨_, _, _, rfl⟩, fun _ => rfl⟩, ⟨fun e => absurd e k6, fun ⟨_, _, e⟩ => by cases e⟩, ⟨fun e => absurd e k7, fun ⟨_, _, _, _, e⟩ => by cases e⟩, ⟨fun e => absurd e k8, fun ⟨_, _, _, _, e⟩ => by cases e⟩, k9⟩
  | say w t => exact ⟨⟨fun e => absurd e.symm k6, fun ⟨_, _, _, e⟩ => by cases e⟩, ⟨fun _ => ⟨_, _, rfl⟩, fun _ => rfl⟩, ⟨fun e => absurd e k10, fun ⟨_, _, _, _, e⟩ => by cases e⟩, ⟨fun e => absurd e k11, fun ⟨_, _, _, _, e⟩ => by cases e⟩, k12⟩
  | ite w a b t => exact ⟨⟨fun e => absurd e.symm k7, fun ⟨_, _, _, e⟩ => by cases e⟩, ⟨fun e => absurd e.symm k10, fun ⟨_, _, e⟩ => by cases e⟩, ⟨fun _ => ⟨_, _, _, _, rfl⟩, fun _ => rfl⟩, ⟨fun e => absurd e k13, fun ⟨_, _, _, _, e⟩ => by cases e⟩, k14⟩
  | loop w ws b t => exact ⟨⟨fun e => absurd e.symm k8, fun ⟨_, _, _, e⟩ => by cases e⟩, ⟨fun e => absurd e.symm k11, fun ⟨_, _, e⟩ => by cases e⟩, ⟨fun e => absurd e.symm k13, fun ⟨_, _, _, _, e⟩ => by cases e⟩, ⟨fun _ => ⟨_, _, _, _, rfl⟩, fun _ => rfl⟩, k15⟩

theorem andW {t u : TT} {σ : L2.St} {H : Hp} {Q : Bool → Hp → Prop} (P' : Hp → Prop) (b : Bool) (h : ∀ R : Bool → Hp → Prop, (∀ H', P' H' → R b H') → tAnd t u σ H R) (q : ∀ H', P' H' → Q b H') : tAnd t u σ H Q := h Q q
theorem ifAnd {t u : TT} {a b : L2.TS} {D : L2.Ends} {σ : L2.St} {H : Hp} (h : tAnd t u σ H (fun k H1 => if k = true then a D σ H1 else b D σ H1)) : tIfS (tAnd t u) a b D σ H := h
theorem kindNot {rs : Rs} {x : Str} (h : rs.kind ≠ x) : ¬ (V.str rs.kind = V.str x) := fun c => h (strEq.mp c)
abbrev s__law_is_bad : Stmt := topS 69
theorem sc__law_is_bad : FnScope ["_law_one", "_law_tops_here", "_law_held", "_law_word_here"] ["_law_one", "_law_tops_here", "_law_held"] (defScope s__law_is_bad) := ⟨rfl, rfl, rfl, by decide +kernel, rfl, by decide +kernel, by decide +kernel⟩

def spIsBad (K : PySem.W.Frag) : Sp := fun vs H Q _ => ∃ (a tp hd pa ra : Addr) (xs : List V) (rs : Rs) (tops hs : List Int), vs = [.ref a, .ref tp, .ref hd] ∧ SqT K H a (.str rs.kind :: .ref pa :: .ref ra :: xs) ∧ Din K H (.ref ra) rs.hd ∧ rs.isNil = false ∧ rs.W tops.length ∧ TopsW tops ∧ H tp = some (.lst (tops.map V.int)) ∧ H hd = some (.lst (hs.map V.int)) ∧ hs.length = tops.length ∧ (∀ x ∈ hs, Wd 400000 x) ∧
  ∀ H', Same H H' → Q (.bl (decide (badZ (askP tops rs) hs (askP tops rs).length ≠ []))) H'
theorem ok__law_is_bad {f : Addr} {fd : FuncData} {k : Nat} (F : Fun K "_law_is_bad" "_law_is_bad" s__law_is_bad f fd) (B : Bl mg) (c__law_value : C8.Cal P w K mg base k "_law_value" (spValue K) []) (c__law_asked : C8.Cal P w K mg base k "_law_asked" (spLAsk K) []) : FnOk P w K mg base CX0 (k + 1) f fd ["_law_one", "_law_tops_here", "_law_held"] (spIsBad K) := by
  refine F.ok sc__law_is_bad (fun vs H Q E h => ?_) (fun cdv A outer s H vs Q E hr h => ?_)
  · obtain ⟨a, tp, hd, pa, ra, xs, rs, tops, hs, rfl, _⟩ := h
    rfl
  obtain ⟨a, tp, hd, pa, ra, xs, rs, tops, hs, rfl, hT, hRd, hn, hW, hTW, htp, hhd, hl, hw, q⟩ := h
  refine ⟨_, (pss_cons (ps_if (PW.pt (pw_and (pt_cmpR op_ne (pe_ix (kIxT (K := K) rfl) (pv 0) pe_int (fun _ _ => rfl)) pe_str (nomark _)) (pw_and1 (pt_cmpR op_ne (pe_ix (kIxT (K := K) rfl) (pv 0) pe_int (fun _ _ => rfl)) pe_str (nomark _)))))
      (pss_one (ps_ret pe_bl))
      pss_nil)
    (pss_one (ps_ret (pe_cmpR (kNeD (K := K) rfl hr.units) (pe_lc (own := [("_law_word_here", 3)]) rfl sc__law_is_bad.nd (kList_ (K := K) rfl (C8.pe_c c__law_asked hr (Nat.le_refl _) (by rfl) (pa_cons (pe_ix (kIxT (K := K) rfl) (pv 0) pe_int (fun _ _ => rfl)) (pa_cons (pv 1) pa_nil)))) (blkOk_by (own := [("_law_word_here", 3)]) (N := ["_law_one", "_law_tops_here", "_law_held", "_law_word_here"]) (sc := defScope s__law_is_bad) (by decide +kernel)) (fun _ _ _ _ _ => (pgN (i := 3) sc__law_is_bad.nd rfl (.inl rfl) (.inr rfl))) (fun _ _ _ _ _ => (pts_one (pt_cmpR op_gt (C8.pe_c c__law_value hr (Nat.le_refl _) (by rfl) (pa_cons (pv 3) (pa_cons (pv 2) pa_nil))) pe_int (nomark _)))) (fun _ _ _ _ _ => pe_int)) (pe_lst pa_nil) (nomark _))))), ?_⟩
  have szl : (100000 : Nat) < sizeLine := by decide
  have ht3 := hTW.2.1
  by_cases hk : (∃ w t, rs = .say w t) ∨ ∃ w ws b t, rs = .loop w ws b t
  rotate_left
  · have n1 : rs.kind ≠ ("say" : Str) := fun e => hk (.inl ((kindIs rs).2.1.mp e))
    have n2 : rs.kind ≠ ("loop" : Str) := fun e => hk (.inr ((kindIs rs).2.2.2.1.mp e))
    have e : askP tops rs = [] := by
      cases rs with
      | say w t => exact absurd (.inl ⟨_, _, rfl⟩) hk
      | loop w ws b t => exact absurd (.inr ⟨_, _, _, _, rfl⟩) hk
      | _ => rfl
    refine ⟨_, rfl, _, _, _, _, rfl, rfl, hT, atI_nat (j := 0) rfl, rfl, _, rfl, ?_⟩
    refine notDec (fun _ => ?_) (fun c => absurd (strEq.mp c) n1)
    refine ⟨_, rfl, _, _, _, _, rfl, rfl, hT, atI_nat (j := 0) rfl, rfl, _, rfl, ?_⟩
    refine notDec (fun _ => ?_) (fun c => absurd (strEq.mp c) n2)
    have := q H (Same.refl _)
    rw [e, show decide (badZ [] hs ([] : List Sm).length ≠ []) = false from decide_eq_false fun z => z rfl] at this
    exact this
  have hkl : (∃ w t, rs = .say w t) ∨ ∃ w ws b t, rs = .loop w ws b t ∧ ws.length ≤ 3 := by
    rcases hk with h | ⟨w, ws, b, t, rfl⟩
    · exact .inl h
    · exact .inr ⟨w, ws, b, t, rfl, hW.2.2.1⟩
  have hag : ∀ s ∈ askP tops rs, s.1.length = tops.length ∧ Wd 8 s.2 ∧ ∀ x ∈ s.1, Wd 8 x := ask_good hTW hW
  have hask3 : (askP tops rs).length ≤ 9 := by
    rcases hkl with ⟨w, t, rfl⟩ | ⟨w, ws, b, t, rfl, lw⟩
    · simp [askP]
    · simp only [askP, List.length_append, bnd_len]
      omega
  refine ifAnd (andW (fun H' => H' = H) false (fun R' r => ?_) (fun H1 e1 => ?_))
  · refine ⟨_, rfl, _, _, _, _, rfl, rfl, hT, atI_nat (j := 0) rfl, rfl, _, rfl, ?_⟩
    refine notDec (fun c => ?_) (fun c => r _ rfl)
    have kl : rs.kind = ("loop" : Str) := (kindIs rs).2.2.2.1.mpr (hk.resolve_left fun ⟨w, t, e⟩ => c (strEq.mpr ((kindIs rs).2.1.mpr ⟨_, _, e⟩)))
    refine ⟨_, rfl, _, _, _, _, rfl, rfl, hT, atI_nat (j := 0) rfl, rfl, _, rfl, ?_⟩
    rw [kl]
    rw [show (!decide (V.str ("loop" : Str) = V.str ("loop" : Str))) = false by rw [decide_eq_true rfl]; rfl]
    exact r _ rfl
  subst e1
  refine iteF ?_
  refine ⟨_, rfl, _, _, _, _, rfl, rfl, hT, atI_nat (j := 2) rfl, _, rfl, _, tp, tops, rs, rfl, hRd, htp, hkl, ht3, fun al as H5 nal s5 hal has => ⟨al, rfl, ⟨_, .of hal⟩, fun D nD => ?_⟩⟩
  have las := has.len
  have hhd5 := s5 _ _ hhd
  refine lc_it (walk_list (xs := as)) (fun i H' => Same H5 H' ∧ ∃ ws : List Int, H' D = some (.lst (ws.map V.int)) ∧ ws.length ≤ i ∧ decide (ws = []) = holds ((askP tops rs).take i) hs) ⟨sameNew nD, [], upd_same, Nat.le_refl _, by simp [holds]⟩ (fun i H' _ p => .of (p.1 _ _ hal)) (fun i x H6 H7 hi p y => ?_) (fun H6 p => ?_)
  · obtain ⟨sm, ws, hZ, lz, hd'⟩ := p
    obtain ⟨rfl, ex⟩ := y
    obtain ⟨s0, es, hs0⟩ := A2.at has ex
    have hg := hag _ (List.mem_of_getElem? es)
    refine ⟨rfl, ?_⟩
    refine ⟨_, rfl, _, rfl, x, hd, s0, hs, rfl, SumIn.mono sm hs0, .of (sm _ _ hhd5), by omega, by omega, fun n hn => (hg.2.2 n hn).mono (by decide), hw, fun H8 s8 => ?_⟩
    refine ⟨_, _, rfl, rfl, _, rfl, ?_⟩
    have hZ3 := s8 _ _ hZ
    refine yesDec (fun c => ?_) (fun c => ?_)
    · refine ⟨ws.map V.int, hZ3, by rw [List.length_map]; omega, sameMut (Same.trans sm s8) nD, ws ++ [1], by rw [upd_same]; simp, by simp; omega, ?_⟩
      rw [holds_take es, decide_eq_false (p := val s0 hs ≤ 0) (by omega), Bool.and_false]
      simp
    · refine ⟨Same.trans sm s8, ws, hZ3, by omega, ?_⟩
      rw [holds_take es, decide_eq_true (p := val s0 hs ≤ 0) (by omega), Bool.and_true]
      exact hd'
  · obtain ⟨sm, ws, hZ, lz, hd'⟩ := p
    refine ⟨by show 0 ≤ sizeLine; decide, fun E nE => ?_⟩
    refine ⟨.list (dI ws), .list [], .lst (.of (sameNew nE _ _ hZ)) (dpInts ws), .lst (.of upd_same) .nil, (lyLst (lyInts ws)).shaped (by decide), (lyLst (lyNil 1)).shaped (by decide), ?_⟩
    rw [eqvNil6, hd', las, List.take_length]
    have e : decide (badZ (askP tops rs) hs (askP tops rs).length ≠ []) = !holds (askP tops rs) hs := by
      cases eh : holds (askP tops rs) hs with
      | true => exact decide_eq_false fun z => z (badZ_nil.mpr eh)
      | false => exact decide_eq_true fun z => by rw [badZ_nil.mp z] at eh; cases eh
    rw [← e]
    exact q _ (Same.trans s5 (Same.trans sm (sameNew nE)))

end

end LW

namespace LW
open PySem PySem.Spec PyProof.Rows L2
local macro_rules | `(tactic| walk_at "go1") => `(tactic| first
  | refine ⟨_, rfl, ?_⟩
  | refine ⟨_, _, rfl, rfl, ?_⟩
  | refine ⟨show (0 : Int) < _ from by omega, ?_⟩
  | refine ⟨show CMul _ _ from by first | exact .inl ⟨by omega, by omega⟩ | exact .inr ⟨by omega, by omega⟩, ?_⟩
  | refine ⟨show CDiv _ _ from ⟨by omega, by omega⟩, ?_⟩)
local macro_rules | `(tactic| walk_at "go") => `(tactic| repeat walk_at "go1")

section
variable {P : Program} {w : World} {K : PySem.W.Frag} {mg : Str → Option Value} {base : Heap}

/-- what a run, a round tells -/
inductive Out where
  | long (p : Pos') (hs : List Int)
  | broken (p : Pos') (hs : List Int)
  | done (hs : List Int) (many : Nat)
def badP (tops : List Int) (p : Pos') (hs : List Int) : Bool := !holds (askP tops p.rs) hs
def runF (tops : List Int) : Option Pos' → List Int → Nat → Nat → Out
  | none, hs, m, _ => .done hs m
  | some p, hs, _, 0 => .long p hs
  | some p, hs, m, f + 1 => if badP tops p hs = true then .broken p hs else runF tops (nxtP p hs) (stepH p hs) (m + 1) f
theorem runF_none {tops hs : List Int} {m f : Nat} : runF tops none hs m f = .done hs m := by cases f <;> rfl
theorem runF_zero {tops hs : List Int} {m : Nat} {p : Pos'} : runF tops (some p) hs m 0 = .long p hs := rfl
theorem runF_bad {tops hs : List Int} {m f : Nat} {p : Pos'} (h : badP tops p hs = true) : runF tops (some p) hs m (f + 1) = .broken p hs := by rw [runF, if_pos h]
theorem runF_go {tops hs : List Int} {m f : Nat} {p : Pos'} (h : badP tops p hs = false) : runF tops (some p) hs m (f + 1) = runF tops (nxtP p hs) (stepH p hs) (m + 1) f := by rw [runF, if_neg (by rw [h]; decide)]
/-- so many rows further on, none of them broken -/
inductive Go (tops : List Int) (o : Option Pos') (hs : List Int) : Nat → Option Pos' → List Int → Prop
  | refl : Go tops o hs 0 o hs
  | snoc {n : Nat} {p : Pos'} {gs : List Int} (h : Go tops o hs n (some p) gs) (b : badP tops p gs = false) : Go tops o hs (n + 1) (nxtP p gs) (stepH p gs)
theorem run_go {tops hs : List Int} {o o' : Option Pos'} {gs : List Int} {n : Nat} (h : Go tops o hs n o' gs) : ∀ m f, runF tops o hs m (n + f) = runF tops o' gs (m + n) f := by
  induction h with
  | refl => intro m f; rw [Nat.zero_add]; rfl
  | @snoc n p gs h b ih =>
    intro m f
    rw [show n + 1 + f = n + (f + 1) by omega, ih, runF_go b]
    rfl
theorem run_short {tops hs : List Int} {o o' : Option Pos'} {gs : List Int} {n : Nat} (h : Go tops o hs n o' gs) : ∀ f, f < n → ∃ x, ∀ m, runF tops o hs m f = x := by
  induction h with
  | refl => intro f hf; omega
  | @snoc n p gs h b ih =>
    intro f hf
    by_cases c : f < n
    · exact ih f c
    · have e : f = n := by omega
      subst e
      refine ⟨.long p gs, fun m => ?_⟩
      have := run_go h m 0
      rw [Nat.add_zero] at this
      rw [this]
      rfl
theorem run_period {tops hs : List Int} {p : Pos'} {n : Nat} (h : Go tops (some p) hs n (some p) hs) (hn : 0 < n) : ∀ f m m', runF tops (some p) hs m f = runF tops (some p) hs m' (f % n) := by
  intro f
  induction f using Nat.strongRecOn with
  | _ f ih =>
    intro m m'
    by_cases c : f < n
    · rw [Nat.mod_eq_of_lt c]
      obtain ⟨x, hx⟩ := run_short h f c
      rw [hx, hx]
    · obtain ⟨g, rfl⟩ : ∃ g, f = n + g := ⟨f - n, by omega⟩
      rw [run_go h, ih g (by omega) (m + n) m', Nat.add_mod_left]
/-- the next row's place -/
theorem goA {R : Rs} {p : Pos'} (hs : List Int) (hA : At R p.ah p.i p.rs p.fr) (hn : p.rs.isNil = false) : ∃ (ah1 : List Nat) (i1 : Nat) (rs1 : Rs) (fr1 : Fr), At R ah1 i1 rs1 fr1 ∧ norm fr1 rs1 ah1 i1 = nxtP p hs := by
  obtain ⟨ah, i, rs, fr⟩ := p
  cases rs with
  | nil => cases hn
  | put b s t => exact ⟨ah, i + 1, t, fr, hA.put, rfl⟩
  | say w t => exact ⟨ah, i + 1, t, fr, hA.say, rfl⟩
  | ite w a b t =>
    by_cases c : val w hs ≤ 0
    · refine ⟨_, 0, a, _, hA.ifA, ?_⟩
      show _ = Pos'.go ⟨ah, i, .ite w a b t, fr⟩ (decide (val w hs ≤ 0))
      rw [decide_eq_true c]
      rfl
    · refine ⟨_, 0, b, _, hA.ifB, ?_⟩
      show _ = Pos'.go ⟨ah, i, .ite w a b t, fr⟩ (decide (val w hs ≤ 0))
      rw [decide_eq_false c]
      rfl
  | loop w ws b t =>
    by_cases c : val w hs ≤ 0
    · refine ⟨_, 0, b, _, hA.body, ?_⟩
      show _ = Pos'.go ⟨ah, i, .loop w ws b t, fr⟩ (decide (val w hs ≤ 0))
      rw [decide_eq_true c]
      rfl
    · refine ⟨_, _, t, _, hA.loop, ?_⟩
      show _ = Pos'.go ⟨ah, i, .loop w ws b t, fr⟩ (decide (val w hs ≤ 0))
      rw [decide_eq_false c]
      rfl
/-- the next place's index: what a row's deed tells -/
theorem goC {R : Rs} {p : Pos'} {j : Nat} (hs : List Int) (hA : AtC R p.ah p.i p.rs p.fr j) (hn : p.rs.isNil = false) :
    ∃ (ah1 : List Nat) (i1 : Nat) (rs1 : Rs) (fr1 : Fr) (j1 : Nat), AtC R ah1 i1 rs1 fr1 j1 ∧ norm fr1 rs1 ah1 i1 = nxtP p hs ∧
      ((∀ b s t, p.rs ≠ .put b s t) → (∀ w t, p.rs ≠ .say w t) → 0 < val (wordOf p.rs) hs → (∃ w a b t, p.rs = .ite w a b t ∧ j1 = j + 2 + clen a) ∨ ∃ w ws b t, p.rs = .loop w ws b t ∧ j1 = j + 2 + clen b) ∧
      ((∃ b s t, p.rs = .put b s t) ∨ (∃ w t, p.rs = .say w t) ∨ ¬ 0 < val (wordOf p.rs) hs → j1 = j + 1) := by
  obtain ⟨ah, i, rs, fr⟩ := p
  cases rs with
  | nil => cases hn
  | put b s t => exact ⟨ah, i + 1, t, fr, j + 1, hA.put, rfl, fun h => absurd rfl (h _ _ _), fun _ => rfl⟩
  | say w t => exact ⟨ah, i + 1, t, fr, j + 1, hA.say, rfl, fun _ h => absurd rfl (h _ _), fun _ => rfl⟩
  | ite w a b t =>
    by_cases c : val w hs ≤ 0
    · refine ⟨_, 0, a, _, j + 1, hA.ifA, ?_, fun _ _ z => absurd c (by have : 0 < val w hs := z; omega), fun _ => rfl⟩
      show _ = Pos'.go ⟨ah, i, .ite w a b t, fr⟩ (decide (val w hs ≤ 0))
      rw [decide_eq_true c]
      rfl
    · refine ⟨_, 0, b, _, _, hA.ifB, ?_, fun _ _ _ => .inl ⟨w, a, b, t, rfl, rfl⟩, fun z => ?_⟩
      · show _ = Pos'.go ⟨ah, i, .ite w a b t, fr⟩ (decide (val w hs ≤ 0))
        rw [decide_eq_false c]
        rfl
      · rcases z with ⟨_, _, _, e⟩ | ⟨_, _, e⟩ | z
        · cases e
        · cases e
        · have : ¬ 0 < val w hs := z
          omega
  | loop w ws b t =>
    by_cases c : val w hs ≤ 0
    · refine ⟨_, 0, b, _, j + 1, hA.body, ?_, fun _ _ z => absurd c (by have : 0 < val w hs := z; omega), fun _ => rfl⟩
      show _ = Pos'.go ⟨ah, i, .loop w ws b t, fr⟩ (decide (val w hs ≤ 0))
      rw [decide_eq_true c]
      rfl
    · refine ⟨_, _, t, _, _, hA.loop, ?_, fun _ _ _ => .inr ⟨w, ws, b, t, rfl, rfl⟩, fun z => ?_⟩
      · show _ = Pos'.go ⟨ah, i, .loop w ws b t, fr⟩ (decide (val w hs ≤ 0))
        rw [decide_eq_false c]
        rfl
      · rcases z with ⟨_, _, _, e⟩ | ⟨_, _, e⟩ | z
        · cases e
        · cases e
        · have : ¬ 0 < val w hs := z
          omega
/-- what is held on a run, not too wide -/
def RunW (n : Nat) (o : Option Pos') (hs : List Int) : Prop := hs.length = n ∧ ∃ c, c + omx o ≤ 14 ∧ ∀ x ∈ hs, Wd (100 * (c + 1)) x
theorem RunW.wd {n : Nat} {o : Option Pos'} {hs : List Int} (h : RunW n o hs) : ∀ x ∈ hs, Wd 400000 x := fun x hx => by
  obtain ⟨_, c, h1, h2⟩ := h
  exact (h2 x hx).mono (by omega)
theorem insK : ∀ {tops fs : List Int}, InS (wi tops) fs → TopsW tops → ∀ x ∈ fs, Wd 4 x := fun {tops fs} h tw x hx => by
  obtain ⟨hl, h⟩ := insIff.mp h
  obtain ⟨j, hj⟩ := List.mem_iff_getElem?.mp hx
  have lj := (List.getElem?_eq_some_iff.mp hj).1
  have h1 := h j (by omega)
  rw [hj] at h1
  have hj2 : j < tops.length := by omega
  rw [List.getElem?_eq_getElem hj2] at h1
  have h2 := tw.2.2 _ (List.getElem_mem hj2)
  have h1 : 0 ≤ x ∧ x ≤ tops[j] := h1
  show x.natAbs < 2 ^ 4
  omega
theorem runW_next {tops hs : List Int} {R : Rs} {p : Pos'} (tw : TopsW tops) (hw : R.W tops.length) (hN : R.num ≤ 12) (hA : At R p.ah p.i p.rs p.fr) (hn : p.rs.isNil = false) (h : RunW tops.length (some p) hs) (hb : badP tops p hs = false) : RunW tops.length (nxtP p hs) (stepH p hs) := by
  have n3 := tw.2.1
  obtain ⟨hl, c, h1, h2⟩ := h
  obtain ⟨ah, i, rs, fr⟩ := p
  dsimp only at hA hn
  have hW := hA.w hw
  cases rs with
  | nil => cases hn
  | put b s t =>
    have h1 : c + (1 + mx t fr.mx) ≤ 14 := h1
    refine ⟨by simp [stepH, hl], c + 1, ?_, fun x hx => ?_⟩
    · show c + 1 + omx (norm fr t ah (i + 1)) ≤ 14
      rw [norm_mx]
      omega
    · have hx : x ∈ hs.set b (val s hs) := hx
      rcases List.mem_or_eq_of_mem_set hx with hx | rfl
      · exact (h2 x hx).mono (by omega)
      · obtain ⟨g1, g2, g3⟩ := sumW_wd hW.2.1
        have hd : Wd (8 + 100 * (c + 1) + s.1.length) (dot s.1 hs) := dotWd g3 h2
        exact (Wd.add (n := 8 + 100 * (c + 1) + s.1.length) (g2.mono (by omega)) hd).mono (by omega)
  | say w t =>
    have h1 : c + (1 + mx t fr.mx) ≤ 14 := h1
    refine ⟨hl, c, ?_, h2⟩
    show c + omx (norm fr t ah (i + 1)) ≤ 14
    rw [norm_mx]
    omega
  | ite w a b t =>
    have h1 : c + (1 + max (mx a (mx t fr.mx)) (mx b (mx t fr.mx))) ≤ 14 := h1
    refine ⟨hl, c, ?_, h2⟩
    show c + omx (Pos'.go ⟨ah, i, .ite w a b t, fr⟩ (decide (val w hs ≤ 0))) ≤ 14
    by_cases d : val w hs ≤ 0
    · rw [decide_eq_true d]
      show c + omx (norm (.ifF ah (i + 1) t fr) a (ah ++ [i, 0]) 0) ≤ 14
      rw [norm_mx]
      show c + mx a (mx t fr.mx) ≤ 14
      omega
    · rw [decide_eq_false d]
      show c + omx (norm (.ifF ah (i + 1) t fr) b (ah ++ [i, 1]) 0) ≤ 14
      rw [norm_mx]
      show c + mx b (mx t fr.mx) ≤ 14
      omega
  | loop w ws b t =>
    have hz : holds (ws ++ bnd tops) hs = true := by
      have : (!holds (ws ++ bnd tops) hs) = false := hb
      simpa using this
    rw [holds_app, Bool.and_eq_true] at hz
    have hI := (bnd_in hl).mp hz.2
    refine ⟨hl, 1, ?_, fun x hx => (insK hI tw x hx).mono (by omega)⟩
    show 1 + omx (Pos'.go ⟨ah, i, .loop w ws b t, fr⟩ (decide (val w hs ≤ 0))) ≤ 14
    by_cases d : val w hs ≤ 0
    · rw [decide_eq_true d]
      show 1 + omx (norm (.loopF ah i w ws b t fr) b (ah ++ [i, 0]) 0) ≤ 14
      rw [norm_mx]
      have := hA.body.mx
      omega
    · rw [decide_eq_false d]
      show 1 + omx (norm fr t ah (i + 1)) ≤ 14
      rw [norm_mx]
      have := hA.loop.mx
      omega
theorem runW_loop {tops hs : List Int} {p : Pos'} (tw : TopsW tops) (hk : ∃ w ws b t, p.rs = .loop w ws b t) (hI : InS (wi tops) hs) : RunW tops.length (some p) hs := by
  obtain ⟨w, ws, b, t, e⟩ := hk
  refine ⟨(insIff.mp hI).1, 0, ?_, fun x hx => (insK hI tw x hx).mono (by omega)⟩
  show 0 + mx p.rs p.fr.mx ≤ 14
  rw [e]
  show 0 + 1 ≤ 14
  omega
theorem badZ_bad {tops hs : List Int} {p : Pos'} : decide (badZ (askP tops p.rs) hs (askP tops p.rs).length ≠ []) = badP tops p hs := by
  unfold badP
  cases eh : holds (askP tops p.rs) hs with
  | true => exact decide_eq_false fun z => z (badZ_nil.mpr eh)
  | false => exact decide_eq_true fun z => by rw [badZ_nil.mp z] at eh; cases eh
/-- it, in the heap, with the list of what is held -/
def OutIn (K : PySem.W.Frag) (H : Hp) (t hd : Addr) : Out → Prop
  | .long p hs => ∃ pl, SqT K H t [.str "long", .ref pl, .ref hd] ∧ SqT K H pl (nats (p.ah ++ [p.i])) ∧ H hd = some (.lst (hs.map V.int))
  | .broken p hs => ∃ pl, SqT K H t [.str "broken", .ref pl, .ref hd] ∧ SqT K H pl (nats (p.ah ++ [p.i])) ∧ H hd = some (.lst (hs.map V.int))
  | .done hs m => SqT K H t [.str "done", .ref hd, .int (m : Nat)] ∧ H hd = some (.lst (hs.map V.int))
theorem OutIn.same {H H' : Hp} {t hd : Addr} {o : Out} (e : Same H H') (h : OutIn K H t hd o) : OutIn K H' t hd o := by
  cases o with
  | long p hs =>
    obtain ⟨pl, h1, h2, h3⟩ := h
    exact ⟨pl, tupS e h1, tupS e h2, e _ _ h3⟩
  | broken p hs =>
    obtain ⟨pl, h1, h2, h3⟩ := h
    exact ⟨pl, tupS e h1, tupS e h2, e _ _ h3⟩
  | done hs m => exact ⟨tupS e h.1, e _ _ h.2⟩
abbrev s__law_run : Stmt := topS 70
theorem sc__law_run : FnScope ["_law_code_here", "_law_at_here", "_law_tops_here", "_law_filling_here", "_law_most", "_law_held", "_law_many", "_law_one"] ["_law_code_here", "_law_at_here", "_law_tops_here", "_law_filling_here", "_law_most"] (defScope s__law_run) := ⟨rfl, rfl, rfl, by decide +kernel, rfl, by decide +kernel, by decide +kernel⟩

def spLRunF (K : PySem.W.Frag) : Sp := fun vs H Q _ => ∃ (L tp f : Addr) (R : Rs) (tops hs : List Int) (j most : Nat) (ah : List Nat) (i : Nat) (rs : Rs) (fr : Fr), vs = [.ref L, .int (j : Nat), .ref tp, .ref f, .int (most : Nat)] ∧ CodeIn K H L R ∧ (codeOf R).length ≤ 1000 ∧ R.W tops.length ∧ R.num ≤ 12 ∧ R.dep ≤ 3 ∧ TopsW tops ∧ AtC R ah i rs fr j ∧ RunW tops.length (norm fr rs ah i) hs ∧ H tp = some (.lst (tops.map V.int)) ∧ SqL K H f (hs.map V.int) ∧
  ∀ (t hd : Addr) (H' : Hp), H hd = none → Same H H' → OutIn K H' t hd (runF tops (norm fr rs ah i) hs 0 most) → Q (.ref t) H'
theorem ok__law_run {f : Addr} {fd : FuncData} {k : Nat} (F : Fun K "_law_run" "_law_run" s__law_run f fd) (B : Bl mg) (c__law_value : C8.Cal P w K mg base k "_law_value" (spValue K) []) (c__law_is_bad : C8.Cal P w K mg base k "_law_is_bad" (spIsBad K) []) : FnOk P w K mg base CX0 (k + 1) f fd ["_law_code_here", "_law_at_here", "_law_tops_here", "_law_filling_here", "_law_most"] (spLRunF K) := by
  refine F.ok sc__law_run (fun vs H Q E h => ?_) (fun cdv A outer s H vs Q E hr h => ?_)
  · obtain ⟨L, tp, f, R, tops, hs, j, most, ah, i, rs, fr, rfl, _⟩ := h
    rfl
  obtain ⟨L, tp, f, R, tops, hs, j, most, ah, i, rs, fr, rfl, hC, hcl, hRW, hN, hD3, hTW, hA, hRun, htp, hF, q⟩ := h
  refine ⟨_, (pss_cons (ps_set (i := 5) sc__law_run.nd rfl (.inl rfl) (pe_callTy (kList (K := K) rfl) (by rfl) B.list (by decide +kernel) (pa_cons (pv 3) pa_nil)))
    (pss_cons (ps_set (i := 6) sc__law_run.nd rfl (.inl rfl) pe_int)
    (pss_cons (ps_while PassesOwn.never (pt_cmpR op_lt (pv 1) (pe_callB (kLen (K := K) rfl) (by rfl) B.len PySem.boot_len (pa_cons (pv 0) pa_nil)) (nomark _))
      (pss_cons (ps_set (i := 7) sc__law_run.nd rfl (.inl rfl) (pe_ix (kIxL (K := K) rfl) (pv 0) (pv 1) (fun _ _ => rfl)))
      (pss_one (ps_if (pt_cmpR op_eq (pe_ix (kIxT (K := K) rfl) (pv 7) pe_int (fun _ _ => rfl)) pe_str (nomark _))
        (pss_one (ps_set (i := 1) sc__law_run.nd rfl (.inl rfl) (pe_ix (kIxT (K := K) rfl) (pv 7) pe_int (fun _ _ => rfl))))
        (pss_one (ps_if (pt_cmpR op_eq (pv 6) (pv 4) (nomark _))
          (pss_one (ps_ret (pe_tup (pa_cons pe_str (pa_cons (pe_ix (kIxT (K := K) rfl) (pv 7) pe_int (fun _ _ => rfl)) (pa_cons (pv 5) pa_nil))))))
          (pss_one (ps_if (pt_val (C8.pe_c c__law_is_bad hr (Nat.le_refl _) (by rfl) (pa_cons (pv 7) (pa_cons (pv 2) (pa_cons (pv 5) pa_nil)))))
            (pss_one (ps_ret (pe_tup (pa_cons pe_str (pa_cons (pe_ix (kIxT (K := K) rfl) (pv 7) pe_int (fun _ _ => rfl)) (pa_cons (pv 5) pa_nil))))))
            (pss_cons (ps_set (i := 6) sc__law_run.nd rfl (.inl rfl) (pe_op op_add (pv 6) pe_int))
            (pss_cons (ps_set (i := 1) sc__law_run.nd rfl (.inl rfl) (pe_op op_add (pv 1) pe_int))
            (pss_one (ps_if (pt_cmpR op_eq (pe_ix (kIxT (K := K) rfl) (pv 7) pe_int (fun _ _ => rfl)) pe_str (nomark _))
              (pss_one (ps_asg (C8.pe_c c__law_value hr (Nat.le_refl _) (by rfl) (pa_cons (pe_ix (kIxT (K := K) rfl) (pe_ix (kIxT (K := K) rfl) (pv 7) pe_int (fun _ _ => rfl)) pe_int (fun _ _ => rfl)) (pa_cons (pv 5) pa_nil))) (pg_sub (pv 5) (pe_ix (kIxT (K := K) rfl) (pe_ix (kIxT (K := K) rfl) (pv 7) pe_int (fun _ _ => rfl)) pe_int (fun _ _ => rfl)) set_list)))
              (pss_one (ps_if (PW.pt (pw_and (pt_cmpR op_ne (pe_ix (kIxT (K := K) rfl) (pv 7) pe_int (fun _ _ => rfl)) pe_str (nomark _)) (pw_and1 (pt_cmpR op_gt (C8.pe_c c__law_value hr (Nat.le_refl _) (by rfl) (pa_cons (pe_ix (kIxT (K := K) rfl) (pe_ix (kIxT (K := K) rfl) (pv 7) pe_int (fun _ _ => rfl)) pe_int (fun _ _ => rfl)) (pa_cons (pv 5) pa_nil))) pe_int (nomark _)))))
                (pss_one (ps_set (i := 1) sc__law_run.nd rfl (.inl rfl) (pe_ix (kIxT (K := K) rfl) (pv 7) pe_int (fun _ _ => rfl))))
                pss_nil))))))))))))))
    (pss_one (ps_ret (pe_tup (pa_cons pe_str (pa_cons (pv 5) (pa_cons (pv 6) pa_nil))))))))), ?_⟩
  have szl : (100000 : Nat) < sizeLine := by decide
  have ht3 := hTW.2.1
  obtain ⟨OUT, hOUT⟩ : ∃ OUT, OUT = runF tops (norm fr rs ah i) hs 0 most := ⟨_, rfl⟩
  rw [← hOUT] at q
  refine ⟨_, rfl, _, _, rfl, .inl hF, fun D nD => ?_⟩
  have sD := sameNew (o := .lst (hs.map V.int)) nD
  have hD1 : upd H D (.lst (hs.map V.int)) D = some (.lst (hs.map V.int)) := upd_same
  generalize upd H D (.lst (hs.map V.int)) = H1 at *
  refine ⟨fun m σ H' => Same H H' ∧ ∃ (jc : Nat) (ah : List Nat) (i : Nat) (rs : Rs) (fr : Fr) (hs : List Int) (many : Nat) (y7 : Option V), σ = [some (.ref L), some (.int (jc : Nat)), some (.ref tp), some (.ref f), some (.int (most : Nat)), some (.ref D), some (.int (many : Nat)), y7] ∧
      H' D = some (.lst (hs.map V.int)) ∧ AtC R ah i rs fr jc ∧ RunW tops.length (norm fr rs ah i) hs ∧ many ≤ most ∧ OUT = runF tops (norm fr rs ah i) hs many (most - many) ∧ (most - many) * 1000 + frD fr = m,
    ⟨_, sD, j, ah, i, rs, fr, hs, 0, none, rfl, hD1, hA, hRun, Nat.zero_le _, hOUT, rfl⟩, ?_⟩
  clear hA hRun hD1 hF hOUT
  rintro m σ H2 ⟨sm, jc, ah, i, rs, fr, hs, many, y7, rfl, hhd, hA, hRun, hmm, hOUT, hm⟩
  have hC2 := hC.same sm
  rcases codeLook hA with ⟨p, e2, hA2, hn, hc2⟩ | ⟨e2, ej⟩ | ⟨pl, e, ah', i', rs', fr', hc2, hA2, e2, hlt⟩
  · -- a row
    obtain ⟨us2, dv2, hL2, hul2, hat2, hdv2⟩ := hC2.at_ hc2
    obtain ⟨a, pa, ra, rx, xs, rfl, hT, hP, hR, hRd, xi, xl⟩ := deRow (p := p) hn hdv2
    have hj2 : jc < us2.length := by
      obtain ⟨h, _⟩ := List.getElem?_eq_some_iff.mp hat2
      exact h
    rw [e2] at hRun hOUT
    have hhl := hRun.1
    have hhw := hRun.wd
    have hW : p.rs.W tops.length := hA2.at_.w hRW
    refine ⟨_, rfl, _, rfl, _, _, rfl, .inl (.of hL2), _, _, rfl, rfl, _, rfl, ?_⟩
    refine yesDec (fun _ => ?_) (fun c => absurd (show (jc : Int) < (us2.length : Int) by omega) c)
    refine ⟨_, fun σ' H' z => z, ?_⟩
    refine ⟨_, rfl, _, rfl, _, _, _, _, rfl, rfl, .of hL2, atI_nat hat2, ?_⟩
    refine ⟨_, rfl, _, _, _, _, rfl, rfl, hT, atI_nat (j := 0) rfl, rfl, _, rfl, ?_⟩
    refine yesDec (fun c => absurd (strEq.mp c) (kindIs p.rs).2.2.2.2) (fun _ => ?_)
    refine ⟨_, rfl, _, rfl, rfl, _, rfl, ?_⟩
    refine yesDec (fun c => ?_) (fun c => ?_)
    · have em : many = most := by
        have := intEq.mp c
        omega
      refine ⟨_, rfl, _, _, _, _, rfl, rfl, hT, atI_nat (j := 1) rfl, _, rfl, by show 3 ≤ sizeLine; decide, fun T nT => ?_⟩
      have sT := sameNew (o := .tup [.str "long", .ref pa, .ref D]) nT
      refine q T D _ nD (Same.trans sm sT) ?_
      rw [hOUT, em, Nat.sub_self, runF_zero]
      exact ⟨pa, .of upd_same, tupS sT hP, sT _ _ hhd⟩
    have hlt : many < most := by
      have : ¬ many = most := fun e => c (by rw [e])
      omega
    obtain ⟨f', hf'⟩ : ∃ f', most - many = f' + 1 := ⟨most - many - 1, by omega⟩
    rw [hf'] at hOUT
    refine ⟨_, rfl, _, rfl, _, rfl, a, tp, D, pa, ra, xs, p.rs, tops, hs, rfl, hT, hRd, hn, hW, hTW, sm _ _ htp, hhd, hhl, hhw, fun H3 s3 => ?_⟩
    refine ⟨_, rfl, ?_⟩
    rw [badZ_bad]
    have sm3 := Same.trans sm s3
    have hT3 := tupS s3 hT
    have hhd3 := s3 _ _ hhd
    have hRd3 := dinSame s3 hRd
    cases hb : badP tops p hs with
    | true =>
      refine iteT ⟨_, rfl, _, _, _, _, rfl, rfl, hT3, atI_nat (j := 1) rfl, _, rfl, by show 3 ≤ sizeLine; decide, fun T nT => ?_⟩
      have sT := sameNew (o := .tup [.str "broken", .ref pa, .ref D]) nT
      refine q T D _ nD (Same.trans sm3 sT) ?_
      rw [hOUT, runF_bad hb]
      exact ⟨pa, .of upd_same, tupS (Same.trans s3 sT) hP, sT _ _ hhd3⟩
    | false =>
    refine iteF ?_
    rw [runF_go hb] at hOUT
    have hRun2 := runW_next hTW hRW hN hA2.at_ hn hRun hb
    refine ⟨_, rfl, _, _, rfl, rfl, ?_⟩
    refine ⟨_, rfl, _, _, rfl, rfl, ?_⟩
    obtain ⟨ah1, i1, rs1, fr1, j1, hA1, e1, g1, g2⟩ := goC hs hA2 hn
    have hdp : frD fr1 < 1000 := by
      have h1 := fr_deep hA1.at_
      have h2 := At.short (tops := tops) hD3 hA1.at_
      omega
    have hmeas : (most - (many + 1)) * 1000 + frD fr1 < m := by
      rw [← hm]
      omega
    rw [← e1] at hRun2 hOUT
    rw [show f' = most - (many + 1) by omega] at hOUT
    have W8 : ∀ {s : Sm}, SumW tops.length s → s.1.length = hs.length ∧ ∀ m ∈ s.1, Wd 400000 m := fun {s} h => by
      obtain ⟨h1, h2, h3⟩ := sumW_wd h
      exact ⟨by omega, fun m hm => (h3 m hm).mono (by decide)⟩
    refine ⟨_, rfl, _, _, _, _, rfl, rfl, hT3, atI_nat (j := 0) rfl, rfl, _, rfl, ?_⟩
    obtain ⟨pah, pi, prs, pfr⟩ := p
    dsimp only at hn hW hRd3 xi xl hT3 hA2 g1 g2
    have lh : (hs.map V.int).length = hs.length := List.length_map _
    refine yesDec (fun c => ?_) (fun c => ?_)
    · obtain ⟨b, s, t, rfl⟩ := (kindIs prs).1.mp (strEq.mp c)
      obtain ⟨v, hR2, hs2⟩ := hdPut hRd3
      have hW : b < tops.length ∧ SumW tops.length s ∧ t.W tops.length := hW
      obtain rfl := g2 (.inl ⟨_, _, _, rfl⟩)
      refine ⟨_, rfl, _, _, _, _, rfl, rfl, hT3, atI_nat (j := 2) rfl, _, _, _, _, rfl, rfl, hR2, atI_nat (j := 2) rfl, _, rfl, v, D, s, hs, rfl, hs2, .of hhd3, (W8 hW.2.1).1, by omega, (W8 hW.2.1).2, hhw, fun H4 s4 => ?_⟩
      have hD4 := s4 _ _ hhd3
      refine ⟨_, rfl, _, rfl, _, _, _, _, rfl, rfl, tupS s4 hT3, atI_nat (j := 2) rfl, _, _, _, _, rfl, rfl, tupS s4 hR2, atI_nat (j := 1) rfl, ?_⟩
      refine ⟨D, _, _, b, rfl, rfl, hD4, ?_, ?_⟩
      · unfold ixN
        rw [if_pos (by omega), if_pos (by omega)]
        rfl
      refine ⟨_, hmeas, sameMut (Same.trans sm3 s4) nD, jc + 1, ah1, i1, rs1, fr1, _, many + 1, _, rfl, ?_, hA1, hRun2, hlt, hOUT, rfl⟩
      rw [upd_same]
      show some (HO.lst ((hs.map V.int).set b (.int (val s hs)))) = some (HO.lst ((hs.set b (val s hs)).map V.int))
      rw [List.map_set]
    · have np : ∀ b s t, prs ≠ .put b s t := fun b s t e => c (strEq.mpr ((kindIs prs).1.mpr ⟨_, _, _, e⟩))
      have est : stepH ⟨pah, pi, prs, pfr⟩ hs = hs := by
        cases prs with
        | put b s t => exact absurd rfl (np _ _ _)
        | _ => rfl
      rw [est] at hRun2 hOUT
      obtain ⟨v, ws, hR2, hs2⟩ := hdWord hn np hRd3
      refine ⟨_, rfl, _, _, _, _, rfl, rfl, hT3, atI_nat (j := 0) rfl, rfl, _, rfl, ?_⟩
      refine notDec (fun c2 => ?_) (fun c2 => ?_)
      · have ns : ∀ w t, prs ≠ .say w t := fun w t e => c2 (strEq.mpr ((kindIs prs).2.1.mpr ⟨_, _, e⟩))
        have hWw : SumW tops.length (wordOf prs) := by
          cases prs with
          | nil => cases hn
          | put b s t => exact absurd rfl (np b s t)
          | say w t => exact hW.1
          | ite w a b t => exact hW.1
          | loop w ws b t => exact hW.1
        refine ⟨_, rfl, _, _, _, _, rfl, rfl, hT3, atI_nat (j := 2) rfl, _, _, _, _, rfl, rfl, hR2, atI_nat (j := 1) rfl, _, rfl, v, D, wordOf prs, hs, rfl, hs2, .of hhd3, (W8 hWw).1, by omega, (W8 hWw).2, hhw, fun H4 s4 => ?_⟩
        have hD4 := s4 _ _ hhd3
        refine ⟨_, _, rfl, rfl, _, rfl, ?_⟩
        refine yesDec (fun c3 => ?_) (fun c3 => ?_)
        · have to : xs = [.int (j1 : Nat)] := by
            rcases g1 np ns (by omega) with ⟨w, a', b', t', e, ej⟩ | ⟨w, ws', b', t', e, ej⟩
            · rw [xi _ _ _ _ e, ej]
            · rw [xl _ _ _ _ e, ej]
          rw [to] at hT3
          refine ⟨_, rfl, _, _, _, _, rfl, rfl, tupS s4 hT3, atI_nat (j := 3) rfl, ?_⟩
          exact ⟨_, hmeas, Same.trans sm3 s4, j1, ah1, i1, rs1, fr1, hs, many + 1, _, rfl, hD4, hA1, hRun2, hlt, hOUT, rfl⟩
        · obtain rfl := g2 (.inr (.inr (by omega)))
          exact ⟨_, hmeas, Same.trans sm3 s4, jc + 1, ah1, i1, rs1, fr1, hs, many + 1, _, rfl, hD4, hA1, hRun2, hlt, hOUT, rfl⟩
      · obtain ⟨w, t, rfl⟩ := (kindIs prs).2.1.mp (strEq.mp c2)
        obtain rfl := g2 (.inr (.inl ⟨_, _, rfl⟩))
        exact ⟨_, hmeas, sm3, jc + 1, ah1, i1, rs1, fr1, hs, many + 1, _, rfl, hhd3, hA1, hRun2, hlt, hOUT, rfl⟩
  · -- behind the last row
    obtain ⟨us2, hL2, hU2⟩ := hC2
    have hul2 : us2.length = (codeOf R).length := by rw [hU2.len, List.length_map]
    refine ⟨_, rfl, _, rfl, _, _, rfl, .inl (.of hL2), _, _, rfl, rfl, _, rfl, ?_⟩
    refine yesDec (fun c => absurd (show (jc : Int) < (us2.length : Int) from c) (by omega)) (fun _ => ?_)
    refine ⟨_, rfl, _, rfl, by show 3 ≤ sizeLine; decide, fun T nT => ?_⟩
    have sT := sameNew (o := .tup [.str "done", .ref D, .int (many : Nat)]) nT
    refine q T D _ nD (Same.trans sm sT) ?_
    rw [hOUT, e2, runF_none]
    exact ⟨.of upd_same, sT _ _ hhd⟩
  · -- a jump
    obtain ⟨us2, dv2, hL2, hul2, hat2, hdv2⟩ := hC2.at_ hc2
    obtain ⟨a2, x2, rfl, hT2⟩ := deJump hdv2
    have hj2 : jc < us2.length := by
      obtain ⟨h, _⟩ := List.getElem?_eq_some_iff.mp hat2
      exact h
    refine ⟨_, rfl, _, rfl, _, _, rfl, .inl (.of hL2), _, _, rfl, rfl, _, rfl, ?_⟩
    refine yesDec (fun _ => ?_) (fun c => absurd (show (jc : Int) < (us2.length : Int) by omega) c)
    refine ⟨_, fun σ' H' z => z, ?_⟩
    refine ⟨_, rfl, _, rfl, _, _, _, _, rfl, rfl, .of hL2, atI_nat hat2, ?_⟩
    refine ⟨_, rfl, _, _, _, _, rfl, rfl, hT2, atI_nat (j := 0) rfl, rfl, _, rfl, ?_⟩
    refine yesDec (fun _ => ?_) (fun c => absurd (strEq.mpr rfl) c)
    refine ⟨_, rfl, _, _, _, _, rfl, rfl, hT2, atI_nat (j := 2) rfl, ?_⟩
    exact ⟨(most - many) * 1000 + frD fr', by rw [← hm]; omega, sm, e, ah', i', rs', fr', hs, many, _, rfl, hhd, hA2, by rw [e2]; exact hRun, hmm, by rw [e2]; exact hOUT, rfl⟩

end

end LW

namespace LW
open PySem PySem.Spec PyProof.Rows L2
local macro_rules | `(tactic| walk_at "go1") => `(tactic| first
  | refine ⟨_, rfl, ?_⟩
  | refine ⟨_, _, rfl, rfl, ?_⟩
  | refine ⟨show (0 : Int) < _ from by omega, ?_⟩
  | refine ⟨show CMul _ _ from by first | exact .inl ⟨by omega, by omega⟩ | exact .inr ⟨by omega, by omega⟩, ?_⟩
  | refine ⟨show CDiv _ _ from ⟨by omega, by omega⟩, ?_⟩)
local macro_rules | `(tactic| walk_at "go") => `(tactic| repeat walk_at "go1")

section
variable {P : Program} {w : World} {K : PySem.W.Frag} {mg : Str → Option Value} {base : Heap}

theorem hdKept {H : Hp} {ra : Addr} {w : Sm} {ws : List Sm} {b t : Rs} (h : Din K H (.ref ra) (Rs.loop w ws b t).hd) : ∃ (v : V) (wa : Addr) (wx : List V) (xs : List V), SqT K H ra (.str "loop" :: v :: .ref wa :: xs) ∧ SqT K H wa wx ∧ A2 (SumIn K H) wx ws := by
  cases h with
  | @tup a xs _ hT hA =>
  cases hA with
  | cons k0 hA =>
  cases k0
  cases hA with
  | cons k1 hA =>
  cases hA with
  | cons k2 hA =>
  cases k2 with
  | @tup wa wx _ hWT hWA =>
  exact ⟨_, wa, wx, _, hT, hWT, sumsDin hWA⟩
theorem kAny {X : Cx} {K : PySem.W.Frag} (h : X.K = K) (hc : X.calm = true) : CallR X (.builtin "any") (rAny K) := by subst h; exact cr_any hc
theorem roomU1 {k : Nat} {A : Around} (r : Room k A) : A.units + 65 < cLine := by have := r.un; omega
theorem kNotInD {X : Cx} {K : PySem.W.Frag} (h : X.K = K) (hu : X.A.units + 65 < cLine) : OpR X (compareOp .NotIn) (rNotInD K) := by subst h; exact op_notInD hu
theorem PgIn.but {H H' : Hp} {C x L : Addr} {tops : List Int} {R : Rs} {xs : List V} (e : But L H H') (h0 : H L = some (.lst xs)) (h : PgIn K H C x tops R) : PgIn K H' C x tops R := by
  obtain ⟨a, ys, ⟨dx, t, h1, h2⟩, h3, h4, h5, h6⟩ := h
  have ts := butTL e h0
  exact ⟨a, ys, ⟨dx, t, e _ _ (fun z => by rw [z, h0] at h1; cases h1) h1, tsTup ts h2⟩, tsTup ts h3, dinATS ts (rowsPure h5) h4, h5, h6⟩
theorem isWi_in {tops hs : List Int} : isWi tops (some (hs.map V.int)) = (decide (hs.length = tops.length) && (if hs.length = tops.length then holds (bnd tops) hs else false)) := by
  rw [isWi_ints]
  by_cases e : hs.length = tops.length
  · rw [decide_eq_true e, if_pos e, Bool.true_and, Bool.true_and]
    have h1 := bnd_in e
    rw [insIff] at h1
    have h2 : okF hs tops = true ↔ ∀ k, k < tops.length → 0 ≤ hs[k]?.getD 0 ∧ hs[k]?.getD 0 ≤ tops[k]?.getD 0 := by
      unfold okF
      simp only [List.all_eq_true, List.mem_range, Bool.and_eq_true, decide_eq_true_eq]
    rw [Bool.eq_iff_iff, h2, h1]
    exact ⟨fun z => ⟨e, z⟩, fun z => z.2⟩
  · rw [decide_eq_false e]
    rfl
theorem anyBad {ws : List Sm} {hs : List Int} : (ws.map fun s => decide (0 < val s hs)).any id = !holds ws hs := by
  induction ws with
  | nil => rfl
  | cons s r ih =>
    rw [List.map_cons, List.any_cons, ih]
    show (decide (0 < val s hs) || !holds r hs) = !(decide (val s hs ≤ 0) && holds r hs)
    by_cases c : val s hs ≤ 0
    · rw [decide_eq_true c, decide_eq_false (by omega)]
      simp
    · rw [decide_eq_false c, decide_eq_true (by omega)]
      simp
abbrev s__breaks : Stmt := topS 37
theorem sc__breaks : FnScope ["program", "place", "held", "row", "word"] ["program", "place", "held"] (defScope s__breaks) := ⟨rfl, rfl, rfl, by decide +kernel, rfl, by decide +kernel, by decide +kernel⟩

def spBrk (K : PySem.W.Frag) (C : Addr) : Sp := fun vs H Q _ => ∃ (x pa hd : Addr) (tops hs : List Int) (R : Rs) (p : Pos'), vs = [.ref x, .ref pa, .ref hd] ∧ PgIn K H C x tops R ∧ At R p.ah p.i p.rs p.fr ∧ p.rs.isNil = false ∧ SqT K H pa (nats (p.ah ++ [p.i])) ∧ SqL K H hd (hs.map V.int) ∧ hs.length ≤ 1000 ∧ ((∃ w t, p.rs = .say w t) → hs.length = tops.length ∧ ∀ x ∈ hs, Wd 400000 x) ∧
  ∀ (b : Bool) (H' : Hp), Same H H' → (hs.length = tops.length → b = badP tops p hs) → (hs.length ≠ tops.length → (∃ w ws b t, p.rs = .loop w ws b t) → b = true) → Q (.bl b) H'
theorem ok__breaks {f C : Addr} {fd : FuncData} {k : Nat} (F : Fun K "_breaks" "_breaks" s__breaks f fd) (B : Bl mg) (nany : mg "any" = none) (qcl : Cls K C) (q_row : CalM P w K mg base k C "row" (spRowAt K C)) (c_value : C8.Cal P w K mg base k "value" (spValueA K) []) (c_is_within : C8.Cal P w K mg base k "is_within" (spWIg K C) []) : FnOk P w K mg base CX0 (k + 1) f fd ["program", "place", "held"] (spBrk K C) := by
  refine F.ok sc__breaks (fun vs H Q E h => ?_) (fun cdv A outer s H vs Q E hr h => ?_)
  · obtain ⟨x, pa, hd, tops, hs, R, p, rfl, _⟩ := h
    rfl
  obtain ⟨x, pa, hd, tops, hs, R, ⟨ah, i, rs, fr⟩, rfl, hP, hA, hn, hp, hF, hl, hsay, q⟩ := h
  dsimp only at hA hn hp hsay q
  refine ⟨_, (pss_cons (ps_set (i := 3) sc__breaks.nd rfl (.inl rfl) (pM q_row qcl hr (by omega) (pv 0) (pa_cons (pv 1) pa_nil)))
    (pss_cons (ps_if (pt_cmpR op_eq (pe_ix (kIxT (K := K) rfl) (pv 3) pe_int (fun _ _ => rfl)) pe_str (nomark _))
      (pss_one (ps_ret (pe_cmpR op_gt (C8.pe_c c_value hr (Nat.le_refl _) (by rfl) (pa_cons (pe_ix (kIxT (K := K) rfl) (pv 3) pe_int (fun _ _ => rfl)) (pa_cons (pv 2) pa_nil))) pe_int (nomark _))))
      pss_nil)
    (pss_cons (ps_if (pt_cmpR op_eq (pe_ix (kIxT (K := K) rfl) (pv 3) pe_int (fun _ _ => rfl)) pe_str (nomark _))
      (pss_one (ps_ret (pe_or (pe_not (C8.pe_c c_is_within hr (Nat.le_refl _) (by rfl) (pa_cons (pv 0) (pa_cons (pv 2) pa_nil)))) (pe_one (pe_callB (kAny (K := K) rfl rfl) (by rfl) nany (by decide +kernel) (pa_cons (pe_lc (own := [("word", 4)]) rfl sc__breaks.nd (kTup_ (K := K) rfl (pe_ix (kIxT (K := K) rfl) (pv 3) pe_int (fun _ _ => rfl))) (blkOk_by (own := [("word", 4)]) (N := ["program", "place", "held", "row", "word"]) (sc := defScope s__breaks) (by decide +kernel)) (fun _ _ _ _ _ => (pgN (i := 4) sc__breaks.nd rfl (.inl rfl) (.inr rfl))) (fun _ _ _ _ _ => pts_nil) (fun _ _ _ _ _ => (pe_cmpR op_gt (C8.pe_c c_value hr (Nat.le_refl _) (by rfl) (pa_cons (pv 4) (pa_cons (pv 2) pa_nil))) pe_int (nomark _)))) pa_nil))))))
      pss_nil)
    (pss_one (ps_ret pe_bl))))), ?_⟩
  have szl : (100000 : Nat) < sizeLine := by decide
  obtain ⟨dx, tt, aa, hx⟩ := hP.obj
  obtain ⟨hRW, hTW, hN, hD⟩ := pgT hP
  have hW := hA.w hRW
  refine ⟨_, rfl, x, dx, _, rfl, hx, lkRow, _, rfl, rowSp (E := C8.E0) hP hA hn hp fun H1 v s1 hv => ?_⟩
  obtain ⟨ra, rx, rfl, hR, e0⟩ := hdKind hn hv
  have hF1 := Same.seq s1 hF
  refine ⟨_, rfl, _, _, _, _, rfl, rfl, hR, atI_nat (j := 0) e0, rfl, _, rfl, ?_⟩
  refine yesDec (fun c => ?_) (fun c => ?_)
  · obtain ⟨w, t, rfl⟩ := (kindIs rs).2.1.mp (strEq.mp c)
    obtain ⟨hlen, hwd⟩ := hsay ⟨_, _, rfl⟩
    obtain ⟨wv, ws, hR2, hw2⟩ := hdWord hn (fun _ _ _ e => by cases e) hv
    obtain ⟨g1, g2, g3⟩ := sumW_wd hW.1
    refine ⟨_, rfl, _, _, _, _, rfl, rfl, hR2, atI_nat (j := 1) rfl, _, rfl, wv, hd, w, hs, rfl, hw2, .inl hF1, by omega, by omega, fun n hn => (g3 n hn).mono (by decide), hwd, fun H2 s2 => ?_⟩
    refine ⟨_, _, rfl, rfl, ?_⟩
    refine q _ _ (Same.trans s1 s2) (fun _ => ?_) (fun z => absurd hlen z)
    show _ = !(decide (val w hs ≤ 0) && true)
    rw [Bool.and_true]
    by_cases d : val w hs ≤ 0
    · rw [decide_eq_true d, decide_eq_false (by omega)]; rfl
    · rw [decide_eq_false d, decide_eq_true (by omega)]; rfl
  refine ⟨_, rfl, _, _, _, _, rfl, rfl, hR, atI_nat (j := 0) e0, rfl, _, rfl, ?_⟩
  refine yesDec (fun c2 => ?_) (fun c2 => ?_)
  · obtain ⟨w, ws, b, t, rfl⟩ := (kindIs rs).2.2.2.1.mp (strEq.mp c2)
    obtain ⟨rv, hpr⟩ := (hP.same s1).pr
    refine ⟨_, rfl, _, rfl, x, .ref hd, tops, rv, some (hs.map V.int), rfl, hpr, FlArg.ints hF1 hl, by have := hTW.2.1; omega, fun H2 s2 => ?_⟩
    have s12 := Same.trans s1 s2
    refine ⟨_, rfl, _, rfl, ?_⟩
    rw [isWi_in]
    by_cases e : hs.length = tops.length
    rotate_left
    · rw [decide_eq_false e, Bool.false_and]
      refine iteT ?_
      exact q true _ s12 (fun z => absurd z e) (fun _ _ => rfl)
    rw [decide_eq_true e, Bool.true_and, if_pos e]
    have fin : ∀ (b' : Bool) H', Same H H' → b' = (!holds (ws ++ bnd tops) hs) → Q (.bl b') H' := fun b' H' s' eb => q b' H' s' (fun _ => eb) (fun z => absurd e z)
    cases hb : holds (bnd tops) hs with
    | false =>
      refine iteT ?_
      exact fin true _ s12 (by rw [holds_app, hb, Bool.and_false]; rfl)
    | true =>
      refine iteF ?_
      have hI := (bnd_in e).mp hb
      have hw4 : ∀ z ∈ hs, Wd 400000 z := fun z hz => (insK hI hTW z hz).mono (by decide)
      obtain ⟨wv, wa, wx, xs3, hR3, hW3, hS3⟩ := hdKept hv
      have hR4 := tupS s2 hR3
      have hW4 := tupS s2 hW3
      have hS4 := sumsS (tsOf s2) hS3
      refine ⟨_, rfl, _, _, _, _, rfl, rfl, hR4, atI_nat (j := 2) rfl, wa, rfl, ⟨_, hW4⟩, fun D nD => ?_⟩
      refine lc_it walk_tup (fun i H' => Same H2 H' ∧ H' D = some (.lst (((ws.take i).map fun s => decide (0 < val s hs)).map V.bl))) ⟨sameNew nD, by rw [upd_same]; simp⟩ (fun i H' _ p => tupS p.1 hW4) (fun i y H3 H4 hi p z => ?_) (fun H3 p => ?_)
      · obtain ⟨sm, hDD⟩ := p
        obtain ⟨rfl, ex⟩ := z
        obtain ⟨s0, es, hs0⟩ := A2.at hS4 ex
        obtain ⟨g1, g2, g3⟩ := sumW_wd (hW.2.1 s0 (List.mem_of_getElem? es))
        have l3 := hW.2.2.1
        refine ⟨rfl, ?_⟩
        refine lcYes ?_
        refine ⟨_, rfl, _, rfl, y, hd, s0, hs, rfl, SumIn.mono sm hs0, .inl (Same.seq (Same.trans s2 sm) hF1), by omega, by omega, fun n hn => (g3 n hn).mono (by decide), hw4, fun H5 s5 => ?_⟩
        refine ⟨_, _, rfl, rfl, ?_⟩
        have hD5 := s5 _ _ hDD
        refine ⟨_, hD5, ?_, sameMut (Same.trans sm s5) nD, ?_⟩
        · rw [List.length_map, List.length_map, List.length_take]
          omega
        · rw [upd_same, mapTakeA es, List.map_append]
          rfl
      · obtain ⟨sm, hDD⟩ := p
        rw [hS4.len, List.take_length] at hDD
        refine ⟨D, _, rfl, .of hDD, ?_⟩
        rw [anyBad]
        refine fin _ _ (Same.trans s12 sm) ?_
        rw [holds_app, hb, Bool.and_true]
  · refine q false _ s1 (fun _ => ?_) (fun _ ⟨w, ws, b, t, e⟩ => absurd (strEq.mpr ((kindIs rs).2.2.2.1.mpr ⟨_, _, _, _, e⟩)) c2)
    have : askP tops rs = [] := by
      cases e : rs with
      | say w t => exact absurd (strEq.mpr ((kindIs rs).2.1.mpr ⟨_, _, e⟩)) c
      | loop w ws b t => exact absurd (strEq.mpr ((kindIs rs).2.2.2.1.mpr ⟨_, _, _, _, e⟩)) c2
      | _ => rfl
    unfold badP
    rw [this]
    rfl
abbrev s__after : Stmt := topS 36
theorem sc__after : FnScope ["program", "place", "held", "row"] ["program", "place", "held"] (defScope s__after) := ⟨rfl, rfl, rfl, by decide +kernel, rfl, by decide +kernel, by decide +kernel⟩

def spAfter (K : PySem.W.Frag) (C : Addr) : Sp := fun vs H Q _ => ∃ (x pa hd : Addr) (tops hs : List Int) (R : Rs) (p : Pos'), vs = [.ref x, .ref pa, .ref hd] ∧ PgIn K H C x tops R ∧ At R p.ah p.i p.rs p.fr ∧ p.rs.isNil = false ∧ SqT K H pa (nats (p.ah ++ [p.i])) ∧ H hd = some (.lst (hs.map V.int)) ∧ hs.length = tops.length ∧ (∀ x ∈ hs, Wd 400000 x) ∧
  ∀ (v : V) (H' : Hp), But hd H H' → H' hd = some (.lst ((stepH p hs).map V.int)) → PlO K H' v (nxtP p hs) → Q v H'
theorem ok__after {f C : Addr} {fd : FuncData} {k : Nat} (F : Fun K "_after" "_after" s__after f fd) (B : Bl mg) (qcl : Cls K C) (q_row : CalM P w K mg base k C "row" (spRowAt K C)) (c_value : C8.Cal P w K mg base k "value" (spValueA K) []) (c_beyond : C8.Cal P w K mg base k "beyond" (spBeyond K C) []) (c_behind : C8.Cal P w K mg base k "behind" (spBehind K C) []) : FnOk P w K mg base CX0 (k + 1) f fd ["program", "place", "held"] (spAfter K C) := by
  refine F.ok sc__after (fun vs H Q E h => ?_) (fun cdv A outer s H vs Q E hr h => ?_)
  · obtain ⟨x, pa, hd, tops, hs, R, p, rfl, _⟩ := h
    rfl
  obtain ⟨x, pa, hd, tops, hs, R, ⟨ah, i, rs, fr⟩, rfl, hP, hA, hn, hp, hF, hl, hwd, q⟩ := h
  dsimp only at hA hn hp q
  refine ⟨_, (pss_cons (ps_set (i := 3) sc__after.nd rfl (.inl rfl) (pM q_row qcl hr (by omega) (pv 0) (pa_cons (pv 1) pa_nil)))
    (pss_cons (ps_if (pt_cmpR (kIn (K := K) rfl) (pe_ix (kIxT (K := K) rfl) (pv 3) pe_int (fun _ _ => rfl)) (pe_tup (pa_cons pe_str (pa_cons pe_str pa_nil))) (by rfl))
      (pss_one (ps_ret (C8.pe_c c_beyond hr (Nat.le_refl _) (by rfl) (pa_cons (pv 0) (pa_cons (pv 1) (pa_cons (pe_cmpR op_le (C8.pe_c c_value hr (Nat.le_refl _) (by rfl) (pa_cons (pe_ix (kIxT (K := K) rfl) (pv 3) pe_int (fun _ _ => rfl)) (pa_cons (pv 2) pa_nil))) pe_int (nomark _)) pa_nil))))))
      pss_nil)
    (pss_cons (ps_if (pt_cmpR op_eq (pe_ix (kIxT (K := K) rfl) (pv 3) pe_int (fun _ _ => rfl)) pe_str (nomark _))
      (pss_one (ps_asg (C8.pe_c c_value hr (Nat.le_refl _) (by rfl) (pa_cons (pe_ix (kIxT (K := K) rfl) (pv 3) pe_int (fun _ _ => rfl)) (pa_cons (pv 2) pa_nil))) (pg_sub (pv 2) (pe_ix (kIxT (K := K) rfl) (pv 3) pe_int (fun _ _ => rfl)) set_list)))
      pss_nil)
    (pss_one (ps_ret (C8.pe_c c_behind hr (Nat.le_refl _) (by rfl) (pa_cons (pv 0) (pa_cons (pv 1) pa_nil)))))))), ?_⟩
  obtain ⟨dx, tt, aa, hx⟩ := hP.obj
  obtain ⟨hRW, hTW, hN, hD⟩ := pgT hP
  have ht3 := hTW.2.1
  have hW := hA.w hRW
  have lh : (hs.map V.int).length = hs.length := List.length_map _
  refine ⟨_, rfl, x, dx, _, rfl, hx, lkRow, _, rfl, rowSp (E := C8.E0) hP hA hn hp fun H1 v s1 hv => ?_⟩
  obtain ⟨ra, rx, rfl, hR, e0⟩ := hdKind hn hv
  have hF1 := s1 _ _ hF
  refine ⟨_, rfl, _, _, _, _, rfl, rfl, hR, atI_nat (j := 0) e0, by show 2 ≤ sizeLine; decide, fun T nT => ⟨T, _, rfl, .inr (.of upd_same), (kindIn hn).1, by decide +kernel, ?_⟩⟩
  have sT := sameNew (o := .tup [.str "if", .str "loop"]) nT
  have s1T := Same.trans s1 sT
  rw [if_neg Bool.false_ne_true, (kindIn hn).2]
  generalize upd H1 T (.tup [.str "if", .str "loop"]) = H2 at *
  have hFT := s1T _ _ hF
  have turn : ∀ {w : Sm} (k' : (∃ w' a b t, rs = .ite w' a b t) ∨ ∃ w' ws b t, rs = .loop w' ws b t) (ew : wordOf rs = w) (hw : SumW tops.length w) (np : ∀ b s t, rs ≠ .put b s t) (es : stepH ⟨ah, i, rs, fr⟩ hs = hs) (en : nxtP ⟨ah, i, rs, fr⟩ hs = Pos'.go ⟨ah, i, rs, fr⟩ (decide (val w hs ≤ 0))), True := fun _ _ _ _ _ _ => trivial
  clear turn
  cases rs with
  | nil => cases hn
  | put b s t =>
    refine ⟨_, rfl, iteF ?_⟩
    refine ⟨_, rfl, _, _, _, _, rfl, rfl, tupS sT hR, atI_nat (j := 0) e0, rfl, _, rfl, ?_⟩
    refine yesDec (fun _ => ?_) (fun c => absurd (strEq.mpr rfl) c)
    obtain ⟨v, hR2, hs2⟩ := hdPut hv
    have hW : b < tops.length ∧ SumW tops.length s ∧ t.W tops.length := hW
    obtain ⟨g1, g2, g3⟩ := sumW_wd hW.2.1
    refine ⟨_, rfl, _, _, _, _, rfl, rfl, tupS sT hR2, atI_nat (j := 2) rfl, _, rfl, v, hd, s, hs, rfl, SumIn.mono sT hs2, .inl (.of hFT), by omega, by omega, fun n hn => (g3 n hn).mono (by decide), hwd, fun H3 s3 => ?_⟩
    have hF3 := s3 _ _ hFT
    refine ⟨_, rfl, _, rfl, _, _, _, _, rfl, rfl, tupS (Same.trans sT s3) hR2, atI_nat (j := 1) rfl, ?_⟩
    refine ⟨hd, _, _, b, rfl, rfl, hF3, ?_, ?_⟩
    · unfold ixN
      rw [if_pos (by omega), if_pos (by omega)]
      rfl
    have s03 := Same.trans s1T s3
    have b4 : But hd H (upd H3 hd (.lst ((hs.map V.int).set b (.int (val s hs))))) := butMut (butOf s03)
    have hF4 : upd H3 hd (.lst ((hs.map V.int).set b (.int (val s hs)))) hd = some (.lst ((hs.set b (val s hs)).map V.int)) := by rw [upd_same, List.map_set]
    have hp4 : SqT K (upd H3 hd (.lst ((hs.map V.int).set b (.int (val s hs))))) pa (nats (ah ++ [i])) := tsTup (butTL b4 hF) hp
    have hP4 := hP.but b4 hF
    generalize upd H3 hd (.lst ((hs.map V.int).set b (.int (val s hs)))) = H4 at *
    refine ⟨_, rfl, _, rfl, x, pa, tops, R, ah, i, _, fr, rfl, hP4, hA, hn, hp4, fun H5 v5 s5 hv5 => ?_⟩
    exact q v5 H5 (b4.trans (butOf s5)) (s5 _ _ hF4) hv5
  | say w t =>
    refine ⟨_, rfl, iteF ?_⟩
    refine ⟨_, rfl, _, _, _, _, rfl, rfl, tupS sT hR, atI_nat (j := 0) e0, rfl, _, rfl, ?_⟩
    refine yesDec (fun c => absurd (show ("say" : Str) = "put" from strEq.mp c) (by decide +kernel)) (fun _ => ?_)
    refine ⟨_, rfl, _, rfl, x, pa, tops, R, ah, i, _, fr, rfl, hP.same s1T, hA, hn, tupS s1T hp, fun H5 v5 s5 hv5 => ?_⟩
    exact q v5 H5 (butOf (Same.trans s1T s5)) (s5 _ _ hFT) hv5
  | ite w b c t =>
    obtain ⟨wv, ws, hR2, hw2⟩ := hdWord hn (fun _ _ _ e => by cases e) hv
    obtain ⟨g1, g2, g3⟩ := sumW_wd hW.1
    refine ⟨_, rfl, iteT ?_⟩
    refine ⟨_, rfl, _, rfl, _, rfl, _, _, _, _, rfl, rfl, tupS sT hR2, atI_nat (j := 1) rfl, _, rfl, wv, hd, w, hs, rfl, SumIn.mono sT hw2, .inl (.of hFT), by omega, by omega, fun n hn => (g3 n hn).mono (by decide), hwd, fun H3 s3 => ?_⟩
    refine ⟨_, _, rfl, rfl, ?_⟩
    have s03 := Same.trans s1T s3
    refine ⟨x, pa, tops, R, ⟨ah, i, _, fr⟩, _, rfl, hP.same s03, hA, .inl ⟨_, _, _, _, rfl⟩, tupS s03 hp, fun H5 v5 s5 hv5 => ?_⟩
    exact q v5 H5 (butOf (Same.trans s03 s5)) ((Same.trans s3 s5) _ _ hFT) hv5
  | loop w ks b t =>
    obtain ⟨wv, ws, hR2, hw2⟩ := hdWord hn (fun _ _ _ e => by cases e) hv
    obtain ⟨g1, g2, g3⟩ := sumW_wd hW.1
    refine ⟨_, rfl, iteT ?_⟩
    refine ⟨_, rfl, _, rfl, _, rfl, _, _, _, _, rfl, rfl, tupS sT hR2, atI_nat (j := 1) rfl, _, rfl, wv, hd, w, hs, rfl, SumIn.mono sT hw2, .inl (.of hFT), by omega, by omega, fun n hn => (g3 n hn).mono (by decide), hwd, fun H3 s3 => ?_⟩
    refine ⟨_, _, rfl, rfl, ?_⟩
    have s03 := Same.trans s1T s3
    refine ⟨x, pa, tops, R, ⟨ah, i, _, fr⟩, _, rfl, hP.same s03, hA, .inr ⟨_, _, _, _, rfl⟩, tupS s03 hp, fun H5 v5 s5 hv5 => ?_⟩
    exact q v5 H5 (butOf (Same.trans s03 s5)) ((Same.trans s3 s5) _ _ hFT) hv5
abbrev s__let_without_rounds : Stmt := topS 35
theorem sc__let_without_rounds : FnScope ["seen", "here", "many", "most"] ["seen", "here", "many", "most"] (defScope s__let_without_rounds) := ⟨rfl, rfl, rfl, by decide +kernel, rfl, by decide +kernel, by decide +kernel⟩

def spLet (P : Program) (w : World) (K : PySem.W.Frag) : Sp := fun vs H Q _ => ∃ (a b : Addr) (k : SKey) (kvs : List (SKey × Int)) (many most : Int), vs = [.ref a, .ref b, .int many, .int most] ∧ SeenIn P w K H a kvs ∧ KeyIn K H b k ∧ kvs.length < sizeLine ∧
  (∀ m0, lookK kvs k = some m0 → 0 < many - m0 ∧ Q (.int (many + (most - many) % (many - m0))) H) ∧
  (lookK kvs k = none → ∀ H', But a H H' → TS H H' → SeenIn P w K H' a (kvs ++ [(k, many)]) → Q (.int most) H')
theorem ok__let_without_rounds {f : Addr} {fd : FuncData} {k : Nat} (F : Fun K "_let_without_rounds" "_let_without_rounds" s__let_without_rounds f fd) (B : Bl mg) : FnOk P w K mg base CX0 (k + 1) f fd ["seen", "here", "many", "most"] (spLet P w K) := by
  refine F.ok sc__let_without_rounds (fun vs H Q E h => ?_) (fun cdv A outer s H vs Q E hr h => ?_)
  · obtain ⟨a, b, k, kvs, many, most, rfl, _⟩ := h
    rfl
  obtain ⟨a, b, k, kvs, many, most, rfl, hs, hk, hl, q1, q2⟩ := h
  refine ⟨_, (pss_cons (ps_if (pt_cmpR (kInN (P := P) (w := w) (K := K) rfl rfl rfl hr.units) (pv 1) (pv 0) (by rfl))
      (pss_one (ps_ret (pe_op op_add (pv 2) (pe_op op_mod (pe_op op_sub (pv 3) (pv 2)) (pe_op op_sub (pv 2) (pe_ix (kIxN (P := P) (w := w) (K := K) rfl rfl rfl hr.units) (pv 0) (pv 1) (fun _ _ => rfl)))))))
      pss_nil)
    (pss_cons (ps_asg (pv 2) (pg_sub (pv 0) (pv 1) (kSetN (P := P) (w := w) (K := K) rfl rfl rfl hr.units)))
    (pss_one (ps_ret (pv 3))))), ?_⟩
  refine ⟨_, rfl, _, rfl, b, a, k, kvs, rfl, rfl, hk, hs, _, rfl, ?_⟩
  cases e : lookK kvs k with
  | none =>
    refine iteF ?_
    refine ⟨_, rfl, _, rfl, _, rfl, a, b, k, kvs, many, rfl, rfl, rfl, hk, hs, e, hl, fun H' hb ht hs' => ?_⟩
    exact ⟨_, rfl, q2 e H' hb ht hs'⟩
  | some m0 =>
    obtain ⟨hpos, q1⟩ := q1 m0 e
    refine iteT ?_
    refine ⟨_, rfl, _, rfl, _, rfl, _, _, rfl, rfl, _, rfl, _, rfl, _, rfl, a, b, k, kvs, m0, rfl, rfl, hk, hs, e, ?_⟩
    exact ⟨_, _, rfl, rfl, _, _, rfl, rfl, hpos, _, _, rfl, rfl, q1⟩

end

end LW

namespace LW
open PySem PySem.Spec PyProof.Rows L2
local macro_rules | `(tactic| walk_at "go1") => `(tactic| first
  | refine ⟨_, rfl, ?_⟩
  | refine ⟨_, _, rfl, rfl, ?_⟩
  | refine ⟨show (0 : Int) < _ from by omega, ?_⟩
  | refine ⟨show CMul _ _ from by first | exact .inl ⟨by omega, by omega⟩ | exact .inr ⟨by omega, by omega⟩, ?_⟩
  | refine ⟨show CDiv _ _ from ⟨by omega, by omega⟩, ?_⟩)
local macro_rules | `(tactic| walk_at "go") => `(tactic| repeat walk_at "go1")

section
variable {P : Program} {w : World} {K : PySem.W.Frag} {mg : Str → Option Value} {base : Heap}

theorem loopsP_form : ∀ (rs : Rs) (ah : List Nat) (i : Nat) (fr : Fr), ∀ p ∈ loopsP rs ah i fr, ∃ (k : Nat) (r : List Nat), p.at_ = ah ++ k :: r ∧ i ≤ k
  | .nil, _, _, _, p, hp => by cases hp
  | .put _ _ t, ah, i, fr, p, hp => by
    obtain ⟨k, r, e, h⟩ := loopsP_form t ah (i + 1) fr p hp
    exact ⟨k, r, e, by omega⟩
  | .say _ t, ah, i, fr, p, hp => by
    obtain ⟨k, r, e, h⟩ := loopsP_form t ah (i + 1) fr p hp
    exact ⟨k, r, e, by omega⟩
  | .ite w a b t, ah, i, fr, p, hp => by
    rcases List.mem_append.mp hp with hp | hp
    · rcases List.mem_append.mp hp with hp | hp
      · obtain ⟨k, r, e, h⟩ := loopsP_form a _ _ _ p hp
        exact ⟨i, 0 :: k :: r, by rw [e]; simp, Nat.le_refl _⟩
      · obtain ⟨k, r, e, h⟩ := loopsP_form b _ _ _ p hp
        exact ⟨i, 1 :: k :: r, by rw [e]; simp, Nat.le_refl _⟩
    · obtain ⟨k, r, e, h⟩ := loopsP_form t ah (i + 1) fr p hp
      exact ⟨k, r, e, by omega⟩
  | .loop w ws b t, ah, i, fr, p, hp => by
    rcases List.mem_cons.mp hp with rfl | hp
    · exact ⟨i, [], rfl, Nat.le_refl _⟩
    · rcases List.mem_append.mp hp with hp | hp
      · obtain ⟨k, r, e, h⟩ := loopsP_form b _ _ _ p hp
        exact ⟨i, 0 :: k :: r, by rw [e]; simp, Nat.le_refl _⟩
      · obtain ⟨k, r, e, h⟩ := loopsP_form t ah (i + 1) fr p hp
        exact ⟨k, r, e, by omega⟩
theorem appHd {ah r r' : List Nat} {k k' : Nat} (e : ah ++ k :: r = ah ++ k' :: r') : k = k' ∧ r = r' := by
  have := List.append_cancel_left e
  injection this with a b
  exact ⟨a, b⟩
theorem loopsP_nodup : ∀ (rs : Rs) (ah : List Nat) (i : Nat) (fr : Fr), ((loopsP rs ah i fr).map Pos'.at_).Nodup
  | .nil, _, _, _ => List.nodup_nil
  | .put _ _ t, ah, i, fr => loopsP_nodup t ah (i + 1) fr
  | .say _ t, ah, i, fr => loopsP_nodup t ah (i + 1) fr
  | .ite w a b t, ah, i, fr => by
    have fa := loopsP_form a (ah ++ [i, 0]) 0 (.ifF ah (i + 1) t fr)
    have fb := loopsP_form b (ah ++ [i, 1]) 0 (.ifF ah (i + 1) t fr)
    have ft := loopsP_form t ah (i + 1) fr
    show ((loopsP a (ah ++ [i, 0]) 0 (.ifF ah (i + 1) t fr) ++ loopsP b (ah ++ [i, 1]) 0 (.ifF ah (i + 1) t fr) ++ loopsP t ah (i + 1) fr).map Pos'.at_).Nodup
    rw [List.map_append, List.map_append, List.nodup_append, List.nodup_append]
    refine ⟨⟨loopsP_nodup a _ _ _, loopsP_nodup b _ _ _, fun x hx y hy e => ?_⟩, loopsP_nodup t _ _ _, fun x hx y hy e => ?_⟩
    · obtain ⟨p, hp, rfl⟩ := List.mem_map.mp hx
      obtain ⟨q, hq, rfl⟩ := List.mem_map.mp hy
      obtain ⟨k, r, e1, _⟩ := fa p hp
      obtain ⟨k', r', e2, _⟩ := fb q hq
      rw [e1, e2] at e
      have e : ah ++ i :: 0 :: k :: r = ah ++ i :: 1 :: k' :: r' := by simpa using e
      have := (appHd e).2
      cases this
    · obtain ⟨q, hq, rfl⟩ := List.mem_map.mp hy
      obtain ⟨k', r', e2, hk⟩ := ft q hq
      rcases List.mem_append.mp hx with hx | hx
      · obtain ⟨p, hp, rfl⟩ := List.mem_map.mp hx
        obtain ⟨k, r, e1, _⟩ := fa p hp
        rw [e1, e2] at e
        have e : ah ++ i :: 0 :: k :: r = ah ++ k' :: r' := by simpa using e
        have := (appHd e).1
        omega
      · obtain ⟨p, hp, rfl⟩ := List.mem_map.mp hx
        obtain ⟨k, r, e1, _⟩ := fb p hp
        rw [e1, e2] at e
        have e : ah ++ i :: 1 :: k :: r = ah ++ k' :: r' := by simpa using e
        have := (appHd e).1
        omega
  | .loop w ws b t, ah, i, fr => by
    have fb := loopsP_form b (ah ++ [i, 0]) 0 (.loopF ah i w ws b t fr)
    have ft := loopsP_form t ah (i + 1) fr
    show ((⟨ah, i, .loop w ws b t, fr⟩ :: (loopsP b (ah ++ [i, 0]) 0 (.loopF ah i w ws b t fr) ++ loopsP t ah (i + 1) fr)).map Pos'.at_).Nodup
    rw [List.map_cons, List.map_append, List.nodup_cons, List.nodup_append]
    refine ⟨fun hx => ?_, loopsP_nodup b _ _ _, loopsP_nodup t _ _ _, fun x hx y hy e => ?_⟩
    · rcases List.mem_append.mp hx with hx | hx
      · obtain ⟨p, hp, e⟩ := List.mem_map.mp hx
        obtain ⟨k, r, e1, _⟩ := fb p hp
        rw [e1] at e
        have e : ah ++ i :: 0 :: k :: r = ah ++ i :: [] := by simpa [Pos'.at_] using e
        have := (appHd e).2
        cases this
      · obtain ⟨p, hp, e⟩ := List.mem_map.mp hx
        obtain ⟨k, r, e1, hk⟩ := ft p hp
        rw [e1] at e
        have e : ah ++ k :: r = ah ++ i :: [] := e
        have := (appHd e).1
        omega
    · obtain ⟨p, hp, rfl⟩ := List.mem_map.mp hx
      obtain ⟨q, hq, rfl⟩ := List.mem_map.mp hy
      obtain ⟨k, r, e1, _⟩ := fb p hp
      obtain ⟨k', r', e2, hk⟩ := ft q hq
      rw [e1, e2] at e
      have e : ah ++ i :: 0 :: k :: r = ah ++ k' :: r' := by simpa using e
      have := (appHd e).1
      omega
theorem At.loops {R : Rs} {ah : List Nat} {i : Nat} {rs : Rs} {fr : Fr} (h : At R ah i rs fr) : ∀ p ∈ loopsP rs ah i fr, p ∈ loopsP R [] 0 .top := by
  induction h with
  | top => exact fun p hp => hp
  | put h ih => exact fun p hp => ih p hp
  | say h ih => exact fun p hp => ih p hp
  | ite h ih => exact fun p hp => ih p (List.mem_append_right _ hp)
  | loop h ih => exact fun p hp => ih p (List.mem_cons_of_mem _ (List.mem_append_right _ hp))
  | ifA h ih => exact fun p hp => ih p (List.mem_append_left _ (List.mem_append_left _ hp))
  | ifB h ih => exact fun p hp => ih p (List.mem_append_left _ (List.mem_append_right _ hp))
  | body h ih => exact fun p hp => ih p (List.mem_cons_of_mem _ (List.mem_append_left _ hp))
theorem inj_nodup {α β : Type} {f : α → β} : ∀ {l : List α}, (l.map f).Nodup → ∀ a ∈ l, ∀ b ∈ l, f a = f b → a = b
  | [], _, a, ha, _, _, _ => by cases ha
  | x :: r, h, a, ha, b, hb, e => by
    rw [List.map_cons, List.nodup_cons] at h
    rcases List.mem_cons.mp ha with ea | ha'
    · rcases List.mem_cons.mp hb with eb | hb'
      · rw [ea, eb]
      · subst ea
        exact absurd (List.mem_map.mpr ⟨b, hb', e.symm⟩) h.1
    · rcases List.mem_cons.mp hb with eb | hb'
      · subst eb
        exact absurd (List.mem_map.mpr ⟨a, ha', e⟩) h.1
      · exact inj_nodup h.2 a ha' b hb' e
theorem loop_one {R : Rs} {p p' : Pos'} (h : At R p.ah p.i p.rs p.fr) (h' : At R p'.ah p'.i p'.rs p'.fr) (k : ∃ w ws b t, p.rs = .loop w ws b t) (k' : ∃ w ws b t, p'.rs = .loop w ws b t) (e : p.ah ++ [p.i] = p'.ah ++ [p'.i]) : p = p' := by
  have mem : ∀ {p : Pos'}, At R p.ah p.i p.rs p.fr → (∃ w ws b t, p.rs = .loop w ws b t) → p ∈ loopsP R [] 0 .top := fun {p} h k => by
    obtain ⟨w, ws, b, t, e⟩ := k
    obtain ⟨ah, i, rs, fr⟩ := p
    dsimp only at e h
    subst e
    exact h.loops _ (List.mem_cons_self ..)
  exact inj_nodup (loopsP_nodup R [] 0 .top) p (mem h k) p' (mem h' k') e
def PosOk (R : Rs) (o : Option Pos') : Prop := ∀ p, o = some p → At R p.ah p.i p.rs p.fr ∧ p.rs.isNil = false
theorem posOk_next {R : Rs} {p : Pos'} {hs : List Int} (hA : At R p.ah p.i p.rs p.fr) (hn : p.rs.isNil = false) : PosOk R (nxtP p hs) := fun p' e => by
  obtain ⟨ah1, i1, rs1, fr1, h1, e1⟩ := goA hs hA hn
  rw [← e1] at e
  exact h1.norm e
theorem lookMem {kvs : List (SKey × Int)} {k : SKey} {m : Int} (h : lookK kvs k = some m) : (k, m) ∈ kvs := by
  unfold lookK at h
  obtain ⟨q, hq, rfl⟩ := Option.map_eq_some_iff.mp h
  have h1 := List.find?_some hq
  have h2 := List.mem_of_find?_eq_some hq
  have : q.1 = k := of_decide_eq_true h1
  rw [← this]
  exact h2
theorem SeenIn.but {P : Program} {w : World} {K : PySem.W.Frag} {H H' : Hp} {a L : Addr} {kvs : List (SKey × Int)} {ys : List V} (e : But L H H') (hL : H L = some (.lst ys)) (h : SeenIn P w K H a kvs) : SeenIn P w K H' a kvs := by
  obtain ⟨hl, xs, h1, h2⟩ := h
  exact ⟨hl, xs, e _ _ (ne_of h1 hL (fun c => by cases c)) h1, A2.map (B' := kvs) (fun _ _ _ r => ⟨r.1, r.2.1.ts (butTL e hL), r.2.2⟩) (fun _ m => m) h2⟩
/-- a loop that was come to, so many rows ago -/
def EntOk (R : Rs) (tops : List Int) (o : Option Pos') (hs : List Int) (many : Nat) (e : SKey × Int) : Prop := ∃ (p : Pos') (g : List Int) (m0 : Nat), e = ((p.ah ++ [p.i], g), (m0 : Int)) ∧ At R p.ah p.i p.rs p.fr ∧ (∃ w ws b t, p.rs = .loop w ws b t) ∧ m0 ≤ many ∧ Go tops (some p) g (many - m0) o hs
abbrev s__run_from : Stmt := topS 34
theorem sc__run_from : FnScope ["program", "place", "filling", "most", "held", "many", "seen"] ["program", "place", "filling", "most"] (defScope s__run_from) := ⟨rfl, rfl, rfl, by decide +kernel, rfl, by decide +kernel, by decide +kernel⟩

def spRunFrom (K : PySem.W.Frag) (C : Addr) : Sp := fun vs H Q _ => ∃ (x f : Addr) (v : V) (tops hs : List Int) (R : Rs) (o : Option Pos') (most : Nat), vs = [.ref x, v, .ref f, .int (most : Nat)] ∧ PgIn K H C x tops R ∧ PlO K H v o ∧ PosOk R o ∧ RunW tops.length o hs ∧ SqL K H f (hs.map V.int) ∧ most ≤ 100000 ∧
  ∀ (t hd : Addr) (H' : Hp), H hd = none → Same H H' → OutIn K H' t hd (runF tops o hs 0 most) → Q (.ref t) H'
theorem ok__run_from {f C : Addr} {fd : FuncData} {k : Nat} (F : Fun K "_run_from" "_run_from" s__run_from f fd) (B : Bl mg) (qcl : Cls K C) (q_row : CalM P w K mg base k C "row" (spRowAt K C)) (c__let_without_rounds : C8.Cal P w K mg base k "_let_without_rounds" (spLet P w K) []) (c__breaks : C8.Cal P w K mg base k "_breaks" (spBrk K C) []) (c__after : C8.Cal P w K mg base k "_after" (spAfter K C) []) : FnOk P w K mg base CX0 (k + 1) f fd ["program", "place", "filling", "most"] (spRunFrom K C) := by
  refine F.ok sc__run_from (fun vs H Q E h => ?_) (fun cdv A outer s H vs Q E hr h => ?_)
  · obtain ⟨x, f, v, tops, hs, R, o, most, rfl, _⟩ := h
    rfl
  obtain ⟨x, f, v, tops, hs, R, o, most, rfl, hP, hv, hpo, hRun, hF, hmost, q⟩ := h
  refine ⟨_, (pss_cons (ps_set (i := 4) sc__run_from.nd rfl (.inl rfl) (pe_callTy (kList (K := K) rfl) (by rfl) B.list (by decide +kernel) (pa_cons (pv 2) pa_nil)))
    (pss_cons (ps_set (i := 5) sc__run_from.nd rfl (.inl rfl) pe_int)
    (pss_cons (ps_set (i := 6) sc__run_from.nd rfl (.inl rfl) (kDNewN (P := P) (w := w) rfl rfl))
    (pss_cons (ps_while PassesOwn.never (pt_cmpR op_notN (pv 1) pe_non (nomark _))
      (C8.pss_cut (ps_if (pt_cmpR op_eq (pe_ix (kIxT (K := K) rfl) (pM q_row qcl hr (by omega) (pv 0) (pa_cons (pv 1) pa_nil)) pe_int (fun _ _ => rfl)) pe_str (nomark _))
        (pss_one (ps_set (i := 3) sc__run_from.nd rfl (.inl rfl) (C8.pe_c c__let_without_rounds hr (Nat.le_refl _) (by rfl) (pa_cons (pv 6) (pa_cons (pe_tup (pa_cons (pv 1) (pa_cons (pe_callTy (kTup (K := K) rfl) (by rfl) B.tuple (by decide +kernel) (pa_cons (pv 4) pa_nil)) pa_nil))) (pa_cons (pv 5) (pa_cons (pv 3) pa_nil)))))))
        pss_nil)
      (pss_cons (ps_if (pt_cmpR op_ge (pv 5) (pv 3) (nomark _))
        (pss_one (ps_ret (pe_tup (pa_cons pe_str (pa_cons (pv 1) (pa_cons (pv 4) pa_nil))))))
        pss_nil)
      (pss_cons (ps_if (pt_val (C8.pe_c c__breaks hr (Nat.le_refl _) (by rfl) (pa_cons (pv 0) (pa_cons (pv 1) (pa_cons (pv 4) pa_nil)))))
        (pss_one (ps_ret (pe_tup (pa_cons pe_str (pa_cons (pv 1) (pa_cons (pv 4) pa_nil))))))
        pss_nil)
      (pss_cons (ps_set (i := 1) sc__run_from.nd rfl (.inl rfl) (C8.pe_c c__after hr (Nat.le_refl _) (by rfl) (pa_cons (pv 0) (pa_cons (pv 1) (pa_cons (pv 4) pa_nil)))))
      (pss_one (ps_aug (i := 5) sc__run_from.nd rfl (.inl rfl) pe_int ip_add)))))))
    (pss_one (ps_ret (pe_tup (pa_cons pe_str (pa_cons (pv 4) (pa_cons (pv 5) pa_nil)))))))))), ?_⟩
  have szl : (10000000 : Nat) < sizeLine := by decide
  obtain ⟨hRW, hTW, hN, hD⟩ := pgT hP
  have ht3 := hTW.2.1
  obtain ⟨OUT, hOUT⟩ : ∃ OUT, OUT = runF tops o hs 0 most := ⟨_, rfl⟩
  rw [← hOUT] at q
  refine ⟨_, rfl, _, _, rfl, .inl hF, fun D nD => ?_⟩
  have sD := sameNew (o := .lst (hs.map V.int)) nD
  have hD1 : upd H D (.lst (hs.map V.int)) D = some (.lst (hs.map V.int)) := upd_same
  generalize upd H D (.lst (hs.map V.int)) = H1 at *
  intro S nS
  have nS0 : H S = none := Same.free sD nS
  have sS := sameNew (o := NdO P w S []) nS
  have hS2 : SeenIn P w K (upd H1 S (NdO P w S [])) S [] := seenNew
  have hD2 := sS _ _ hD1
  have s02 := Same.trans sD sS
  generalize upd H1 S (NdO P w S []) = H2 at *
  refine ⟨fun m σ H' => Same H H' ∧ ∃ (v : V) (o : Option Pos') (hs : List Int) (many most' : Nat) (kvs : List (SKey × Int)), σ = [some (.ref x), some v, some (.ref f), some (.int (most' : Nat)), some (.ref D), some (.int (many : Nat)), some (.ref S)] ∧
      H' D = some (.lst (hs.map V.int)) ∧ SeenIn P w K H' S kvs ∧ PlO K H' v o ∧ PosOk R o ∧ RunW tops.length o hs ∧ many ≤ most' ∧ most' ≤ most ∧ OUT = runF tops o hs many (most' - many) ∧ (∀ e ∈ kvs, EntOk R tops o hs many e ∧ e.2 < (many : Int)) ∧ kvs.length ≤ many ∧ most' - many = m,
    ⟨_, s02, v, o, hs, 0, most, [], rfl, hD2, hS2, hv.same s02, hpo, hRun, Nat.zero_le _, Nat.le_refl _, hOUT, (fun e he => by cases he), Nat.le_refl _, rfl⟩, ?_⟩
  clear hv hpo hRun hOUT hD1 hD2 hS2 hF sD sS nS s02
  rintro m σ H3 ⟨sm, v, o, hs, many, most', kvs, rfl, hD3, hS3, hv, hpo, hRun, hmm, hml, hOUT, hent, hkl, hm⟩
  refine ⟨_, rfl, rfl, _, rfl, ?_⟩
  cases o with
  | none =>
    have e : v = .non := hv
    rw [e]
    refine iteF ⟨_, rfl, _, rfl, by show 3 ≤ sizeLine; decide, fun T nT => ?_⟩
    have sT := sameNew (o := .tup [.str "done", .ref D, .int (many : Nat)]) nT
    refine q T D _ nD (Same.trans sm sT) ?_
    rw [hOUT, runF_none]
    exact ⟨.of upd_same, sT _ _ hD3⟩
  | some p =>
  obtain ⟨pa, rfl, hp⟩ := hv
  obtain ⟨hA, hn⟩ := hpo p rfl
  refine iteT ⟨_, fun σ' H' z => z, ?_⟩
  have hP3 := hP.same sm
  obtain ⟨dx, tt, aa, hx⟩ := hP3.obj
  refine ⟨fun σ' H' => ∃ (most2 : Nat) (kvs2 : List (SKey × Int)), σ' = [some (.ref x), some (.ref pa), some (.ref f), some (.int (most2 : Nat)), some (.ref D), some (.int (many : Nat)), some (.ref S)] ∧ Same H H' ∧ TS H3 H' ∧
      H' D = some (.lst (hs.map V.int)) ∧ SeenIn P w K H' S kvs2 ∧ many ≤ most2 ∧ most2 ≤ most' ∧ OUT = runF tops (some p) hs many (most2 - many) ∧ (∀ e ∈ kvs2, EntOk R tops (some p) hs many e) ∧ kvs2.length ≤ many + 1, ?_, ?_⟩
  · refine ⟨_, rfl, x, dx, _, rfl, hx, lkRow, _, rfl, rowSp (E := C8.E0) hP3 hA hn hp fun H4 rv s4 hrv => ?_⟩
    obtain ⟨ra, rx, rfl, hR, e0⟩ := hdKind hn hrv
    have sm4 := Same.trans sm s4
    have hD4 := s4 _ _ hD3
    have hS4 := hS3.same s4
    refine ⟨_, _, _, _, rfl, rfl, hR, atI_nat (j := 0) e0, rfl, _, rfl, ?_⟩
    refine yesDec (fun c => ?_) (fun c => ?_)
    · have hlp := (kindIs p.rs).2.2.2.1.mp (strEq.mp c)
      refine ⟨_, rfl, _, rfl, _, rfl, _, _, rfl, .inl ⟨.of hD4, fun T nT => ⟨by show 2 ≤ sizeLine; decide, fun U nU => ?_⟩⟩⟩
      have sT := sameNew (o := .tup (hs.map V.int)) nT
      have hT : upd H4 T (.tup (hs.map V.int)) T = some (.tup (hs.map V.int)) := upd_same
      generalize upd H4 T (.tup (hs.map V.int)) = H5 at *
      have sU := sameNew (o := .tup [.ref pa, .ref T]) nU
      have hU : upd H5 U (.tup [.ref pa, .ref T]) U = some (.tup [.ref pa, .ref T]) := upd_same
      have hTU := sU _ _ hT
      generalize upd H5 U (.tup [.ref pa, .ref T]) = H6 at *
      have s46 := Same.trans sT sU
      have sm6 := Same.trans sm4 s46
      have s36 := Same.trans s4 s46
      have hD6 := s46 _ _ hD4
      have hS6 := hS4.same s46
      have nDS : D ≠ S := by
        obtain ⟨_, xs, h1, _⟩ := hS6
        exact ne_of hD6 h1 (fun c => by cases c)
      refine ⟨_, rfl, _, rfl, S, U, (p.ah ++ [p.i], hs), kvs, many, most', rfl, hS6, ⟨pa, T, .of hU, tupS s36 hp, .of hTU⟩, by omega, fun m0 hm0 => ?_, fun hno H7 b7 t7 hS7 => ?_⟩
      · obtain ⟨⟨p', g, m1, ee, hA', hk', hle, hgo⟩, hlt⟩ := hent _ (lookMem hm0)
        have e1 : (p.ah ++ [p.i], hs) = (p'.ah ++ [p'.i], g) := congrArg (·.1) ee
        have e2 : m0 = (m1 : Int) := congrArg (·.2) ee
        have e3 : p.ah ++ [p.i] = p'.ah ++ [p'.i] := congrArg (·.1) e1
        have e4 : hs = g := congrArg (·.2) e1
        have epp := loop_one hA hA' hlp hk' e3
        subst epp e4 e2
        have hlt' : m1 < many := by
          have : ((m1 : Nat) : Int) < (many : Int) := hlt
          omega
        refine ⟨by omega, ?_⟩
        have en : ((many : Nat) : Int) + (((most' : Nat) : Int) - (many : Int)) % ((many : Int) - (m1 : Int)) = ((many + (most' - many) % (many - m1) : Nat) : Int) := by
          have h1 : ((most' : Nat) : Int) - (many : Int) = ((most' - many : Nat) : Int) := by omega
          have h2 : ((many : Nat) : Int) - (m1 : Int) = ((many - m1 : Nat) : Int) := by omega
          rw [h1, h2]
          push_cast
          rfl
        rw [en]
        have hle2 : (most' - many) % (many - m1) ≤ most' - many := Nat.mod_le _ _
        refine ⟨_, kvs, rfl, sm6, tsOf s36, hD6, hS6, by omega, by omega, ?_, fun e he => (hent e he).1, by omega⟩
        rw [hOUT, show many + (most' - many) % (many - m1) - many = (most' - many) % (many - m1) by omega]
        exact run_period hgo (by omega) _ _ _
      · refine ⟨most', kvs ++ [((p.ah ++ [p.i], hs), (many : Int))], rfl, sameButL sm6 nS0 b7, TS.trans (tsOf s36) t7, b7 _ _ nDS hD6, hS7, hmm, Nat.le_refl _, hOUT, fun e he => ?_, by rw [List.length_append, List.length_singleton]; omega⟩
        rcases List.mem_append.mp he with he | he
        · exact (hent e he).1
        · rw [List.mem_singleton.mp he]
          refine ⟨p, hs, many, rfl, hA, hlp, Nat.le_refl _, ?_⟩
          rw [Nat.sub_self]
          exact .refl
    · exact ⟨most', kvs, rfl, sm4, tsOf s4, hD4, hS4, hmm, Nat.le_refl _, hOUT, fun e he => (hent e he).1, by omega⟩
  rintro σ' H4 ⟨most2, kvs2, rfl, sm4, t34, hD4, hS4, hmm2, hml2, hOUT2, hent2, hkl2⟩
  have hp4 := tsTup t34 hp
  refine ⟨_, rfl, _, rfl, _, _, rfl, rfl, _, rfl, ?_⟩
  refine yesDec (fun c => ?_) (fun c => ?_)
  · refine ⟨_, rfl, _, rfl, by show 3 ≤ sizeLine; decide, fun T nT => ?_⟩
    have sT := sameNew (o := .tup [.str "long", .ref pa, .ref D]) nT
    refine q T D _ nD (Same.trans sm4 sT) ?_
    have c' : (most2 : Int) ≤ (many : Int) := c
    rw [hOUT2, show most2 - many = 0 by omega, runF_zero]
    exact ⟨pa, .of upd_same, tupS sT hp4, sT _ _ hD4⟩
  have c' : ¬ (most2 : Int) ≤ (many : Int) := c
  obtain ⟨f', hf'⟩ : ∃ f', most2 - many = f' + 1 := ⟨most2 - many - 1, by omega⟩
  rw [hf'] at hOUT2
  have hl3 : hs.length ≤ 1000 := by have := hRun.1; omega
  refine ⟨_, rfl, _, rfl, _, rfl, x, pa, D, tops, hs, R, p, rfl, hP.same sm4, hA, hn, hp4, .of hD4, hl3, fun _ => ⟨hRun.1, hRun.wd⟩, fun b H5 s5 hb _ => ?_⟩
  have hb := hb hRun.1
  subst hb
  refine ⟨_, rfl, ?_⟩
  have sm5 := Same.trans sm4 s5
  have hD5 := s5 _ _ hD4
  have hp5 := tupS s5 hp4
  cases hbad : badP tops p hs with
  | true =>
    refine iteT ⟨_, rfl, _, rfl, by show 3 ≤ sizeLine; decide, fun T nT => ?_⟩
    have sT := sameNew (o := .tup [.str "broken", .ref pa, .ref D]) nT
    refine q T D _ nD (Same.trans sm5 sT) ?_
    rw [hOUT2, runF_bad hbad]
    exact ⟨pa, .of upd_same, tupS sT hp5, sT _ _ hD5⟩
  | false =>
  refine iteF ?_
  rw [runF_go hbad] at hOUT2
  refine ⟨_, rfl, _, rfl, _, rfl, x, pa, D, tops, hs, R, p, rfl, hP.same sm5, hA, hn, hp5, hD5, hRun.1, hRun.wd, fun v6 H6 b6 hD6 hv6 => ?_⟩
  have sm6 := sameButL sm5 nD b6
  have hS6 := (hS4.same s5).but b6 hD5
  refine ⟨_, rfl, _, _, rfl, rfl, ?_⟩
  refine ⟨most2 - (many + 1), by omega, sm6, v6, nxtP p hs, stepH p hs, many + 1, most2, kvs2, rfl, hD6, hS6, hv6, posOk_next hA hn, runW_next hTW hRW hN hA hn hRun hbad, by omega, by omega, by rw [hOUT2, show most2 - (many + 1) = f' by omega], fun e he => ?_, hkl2, rfl⟩
  obtain ⟨p', g, m1, ee, hA', hk', hle, hgo⟩ := hent2 e he
  refine ⟨⟨p', g, m1, ee, hA', hk', by omega, ?_⟩, ?_⟩
  · rw [show many + 1 - m1 = (many - m1) + 1 by omega]
    exact .snoc hgo hbad
  · rw [ee]
    show ((m1 : Nat) : Int) < ((many + 1 : Nat) : Int)
    omega

end

end LW

namespace LW
open PySem PySem.Spec PyProof.Rows L2
local macro_rules | `(tactic| walk_at "go1") => `(tactic| first
  | refine ⟨_, rfl, ?_⟩
  | refine ⟨_, _, rfl, rfl, ?_⟩
  | refine ⟨show (0 : Int) < _ from by omega, ?_⟩
  | refine ⟨show CMul _ _ from by first | exact .inl ⟨by omega, by omega⟩ | exact .inr ⟨by omega, by omega⟩, ?_⟩
  | refine ⟨show CDiv _ _ from ⟨by omega, by omega⟩, ?_⟩)
local macro_rules | `(tactic| walk_at "go") => `(tactic| repeat walk_at "go1")

section
variable {P : Program} {w : World} {K : PySem.W.Frag} {mg : Str → Option Value} {base : Heap}

theorem runW_start {tops hs : List Int} {R : Rs} (hN : R.num ≤ 12) (l : hs.length = tops.length) (h : ∀ x ∈ hs, Wd 100 x) : RunW tops.length (norm .top R [] 0) hs := by
  refine ⟨l, 0, ?_, fun x hx => (h x hx).mono (by omega)⟩
  rw [norm_mx]
  have := (At.top (R := R)).mx
  omega
abbrev s_run : Stmt := topS 33
theorem sc_run : FnScope ["program", "filling", "most"] ["program", "filling", "most"] (defScope s_run) := ⟨rfl, rfl, rfl, by decide +kernel, rfl, by decide +kernel, by decide +kernel⟩

def spRun (K : PySem.W.Frag) (C BF : Addr) : Sp := fun vs H Q E => ∃ (x : Addr) (v : V) (tops : List Int) (R : Rs) (xs : Option (List V)) (most : Nat), vs = [.ref x, v, .int (most : Nat)] ∧ PgIn K H C x tops R ∧ FlArg K H v xs ∧ most ≤ 100000 ∧
  (isFl tops xs = false → ∀ H', Same H H' → E (.ref BF) none H') ∧
  (isFl tops xs = true → ∃ (f : Addr) (hs : List Int), v = .ref f ∧ SqL K H f (hs.map V.int) ∧ hs.length = tops.length ∧ (∀ z ∈ hs, Wd 100 z) ∧ ∀ (t hd : Addr) (H' : Hp), H hd = none → Same H H' → OutIn K H' t hd (runF tops (norm .top R [] 0) hs 0 most) → Q (.ref t) H')
theorem ok_run {f C BF : Addr} {fd : FuncData} {k : Nat} (F : Fun K "run" "run" s_run f fd) (B : Bl mg) (XBadFilling : ExF K mg "BadFilling" BF) (c_is_filling : C8.Cal P w K mg base k "is_filling" (spFill K C) []) (c_beginning : C8.Cal P w K mg base k "beginning" (spBegin K C) []) (c__run_from : C8.Cal P w K mg base k "_run_from" (spRunFrom K C) []) : FnOk P w K mg base (L2.CX P w) (k + 1) f fd ["program", "filling", "most"] (spRun K C BF) := by
  refine F.okX sc_run (fun vs H Q E h => ?_) (fun cdv A outer s H vs Q E hr h => ?_)
  · obtain ⟨x, v, tops, R, xs, most, rfl, _⟩ := h
    rfl
  obtain ⟨x, v, tops, R, xs, most, rfl, hP, hv, hm, e1, q⟩ := h
  refine ⟨_, (pss_cons (ps_if (pt_not (pt_val (C8.pe_c c_is_filling hr (Nat.le_refl _) (by rfl) (pa_cons (pv 0) (pa_cons (pv 1) pa_nil)))))
      (pss_one (ps_raise rfl (takes_of rfl rfl rfl rfl) (pmk_ownA PySem.F.excBase_ValueError XBadFilling.xP XBadFilling.gP XBadFilling.kP (raises_own XBadFilling.bP XBadFilling.tP) (by rfl) (pa_cons pe_str pa_nil))))
      pss_nil)
    (pss_one (ps_ret (C8.pe_c c__run_from hr (Nat.le_refl _) (by rfl) (pa_cons (pv 0) (pa_cons (C8.pe_c c_beginning hr (Nat.le_refl _) (by rfl) (pa_cons (pv 0) pa_nil)) (pa_cons (pv 1) (pa_cons (pv 2) pa_nil)))))))), ?_⟩
  obtain ⟨hRW, hTW, hN, hD⟩ := pgT hP
  obtain ⟨rv, hpr⟩ := hP.pr
  refine ⟨_, rfl, _, rfl, x, v, tops, rv, xs, rfl, hpr, hv, by have := hTW.2.1; omega, fun H1 s1 => ?_⟩
  refine ⟨_, rfl, ?_⟩
  cases b : isFl tops xs with
  | false => exact iteT ⟨by show 1 ≤ sizeLine; decide, e1 b _ s1⟩
  | true =>
    refine iteF ?_
    obtain ⟨f, hs, rfl, hF, hl, hwd, q⟩ := q b
    refine ⟨_, rfl, _, rfl, x, tops, R, rfl, hP.same s1, fun H2 v2 s2 hv2 => ?_⟩
    have s12 := Same.trans s1 s2
    refine ⟨_, rfl, _, rfl, x, f, v2, tops, hs, R, norm .top R [] 0, most, rfl, hP.same s12, hv2, fun p' e => ?_, runW_start hN hl hwd, Same.seq s12 hF, hm, fun t hd H3 nh s3 ho => ?_⟩
    · exact At.norm .top e
    · exact q t hd H3 (Same.free s12 nh) (Same.trans s12 s3) ho

end

end LW

namespace LW
open PySem PySem.Spec PyProof.Rows L2
local macro_rules | `(tactic| walk_at "go1") => `(tactic| first
  | refine ⟨_, rfl, ?_⟩
  | refine ⟨_, _, rfl, rfl, ?_⟩
  | refine ⟨show (0 : Int) < _ from by omega, ?_⟩
  | refine ⟨show CMul _ _ from by first | exact .inl ⟨by omega, by omega⟩ | exact .inr ⟨by omega, by omega⟩, ?_⟩
  | refine ⟨show CDiv _ _ from ⟨by omega, by omega⟩, ?_⟩)
local macro_rules | `(tactic| walk_at "go") => `(tactic| repeat walk_at "go1")

section
variable {P : Program} {w : World} {K : PySem.W.Frag} {mg : Str → Option Value} {base : Heap}

theorem passW {X : Cx} {W : WX} {n : Nat} (hn : X.N.length = n) (tk : Takes X W) : Passes (L2.CX X.prog X.w) X (fun cls d H => ∀ σ : L2.St, σ.length = n → W cls d σ H) := fun _ σ _ _ e s' I c => tk e s' (XE.of_call I (fun cls d H h => h σ (I.len.trans hn)) c)
theorem pssWhen {X : Cx} {p : Prop} {b : List Stmt} {t : L2.TS} (h : p → PSs X b t) : PSs X b (fun D σ H => p ∧ t D σ H) := ⟨fun pins s σ H D I q => (h q.1).run pins s σ H D I q.2⟩
theorem zcOf {CB : Addr} {cls : Value} {d : Option Addr} {oe : Obj} (hc : cls = .ref CB ∧ d = none) (hz : Zc cls d oe) : Zc (.ref CB) none oe := by
  obtain ⟨rfl, rfl⟩ := hc
  exact hz
/-- what is told of the classes of errors -/
structure ErrG (K : PySem.W.Frag) (mg : Str → Option Value) (CB BF NL LE : Addr) : Prop where
  exC : ExcC K BF
  eP : PySem.W.exmOne K (.ref BF) (.ref BF) = some true
  gBF : mg "BadFilling" = some (.ref BF)
  gCB : mg "BadProgram" = some (.ref CB)
  gNL : mg "NoLoop" = some (.ref NL)
  gLE : mg "LoopError" = some (.ref LE)
  nVE : mg "ValueError" = none
  kCB : PySem.W.kitOne K (.ref BF) (.ref CB) = some false
  kNL : PySem.W.kitOne K (.ref BF) (.ref NL) = some false
  kLE : PySem.W.kitOne K (.ref BF) (.ref LE) = some true
  kVE : PySem.W.kitOne K (.ref BF) (.type "ValueError") = some true
abbrev s__law_refused : Stmt := topS 74
theorem sc__law_refused : FnScope ["_law_program_here", "_law_filling_here", "e"] ["_law_program_here", "_law_filling_here"] (defScope s__law_refused) := ⟨rfl, rfl, rfl, by decide +kernel, rfl, by decide +kernel, by decide +kernel⟩

def spRefG (K : PySem.W.Frag) (C : Addr) : Sp := fun vs H Q _ => ∃ (x : Addr) (v : V) (tops : List Int) (R : Rs) (xs : Option (List V)), vs = [.ref x, v] ∧ PgIn K H C x tops R ∧ FlArg K H v xs ∧ isFl tops xs = false ∧ ∀ H', Same H H' → Q (.bl true) H'
theorem ok__law_refused {f C CB BF NL LE : Addr} {fd : FuncData} {k : Nat} (F : Fun K "_law_refused" "_law_refused" s__law_refused f fd) (B : Bl mg) (EG : ErrG K mg CB BF NL LE) (XBadFilling : ExF K mg "BadFilling" BF) (c_run : CalX P w K mg base k "run" (spRun K C BF)) : FnOk P w K mg base CX0 (k + 1) f fd ["_law_program_here", "_law_filling_here"] (spRefG K C) := by
  have exC := EG.exC
  have gBadFilling := EG.gBF
  have gBadProgram := EG.gCB
  have gNoLoop := EG.gNL
  have gLoopError := EG.gLE
  have nVE := EG.nVE
  refine F.ok sc__law_refused (fun vs H Q E h => ?_) (fun cdv A outer s H vs Q E hr h => ?_)
  · obtain ⟨x, v, tops, R, xs, rfl, _⟩ := h
    rfl
  obtain ⟨x, v, tops, R, xs, rfl, hP, hv, hb, q⟩ := h
  refine ⟨_, (pss_cons (ps_try_as (i := 2) rfl rfl sc__law_refused.nd rfl rfl ⟨rfl, by decide, .inl XBadFilling.gP⟩ takes0 (fun W pn xe tk _ => (pss_one (ps_expr (cX c_run hr (Nat.le_refl _) (by rfl) (passW (n := 3) rfl tk) (pa_cons (pv 0) (pa_cons (pv 1) (pa_cons pe_int pa_nil)))))))
      (fun a oe cls d pn hz hf => pssWhen (fun hc => (pss_cons (ps_if (PW.pt (pw_or (pt_val (pe_callB (call_isE exC (zcOf hc hz) hf) (by rfl) B.isinstance (by decide +kernel) (pa_cons (pv 2) (pa_cons (pe_glob (v := .ref CB) (by rfl) gBadProgram rfl) pa_nil)))) (pw_or1 (pt_val (pe_callB (call_isE exC (zcOf hc hz) hf) (by rfl) B.isinstance (by decide +kernel) (pa_cons (pv 2) (pa_cons (pe_glob (v := .ref NL) (by rfl) gNoLoop rfl) pa_nil)))))))
          (pss_one (ps_ret pe_bl))
          pss_nil)
        (pss_one (ps_ret (pe_and (pe_callB (call_isE exC (zcOf hc hz) hf) (by rfl) B.isinstance (by decide +kernel) (pa_cons (pv 2) (pa_cons (pe_glob (v := .ref LE) (by rfl) gLoopError rfl) pa_nil))) (pe_one (pe_callB (call_isE exC (zcOf hc hz) hf) (by rfl) B.isinstance (by decide +kernel) (pa_cons (pv 2) (pa_cons (pe_bltn (v := .ty "ValueError") (by rfl) nVE (by decide +kernel) rfl) pa_nil)))))))))))
    (pss_one (ps_ret pe_bl))), ?_⟩
  refine ⟨_, rfl, _, rfl, x, v, tops, R, xs, 9, rfl, hP, hv, by omega, fun _ H1 s1 σ hσ => ?_, fun c => absurd (c.symm.trans hb) (by decide)⟩
  obtain ⟨y0, y1, y2, rfl⟩ : ∃ y0 y1 y2, σ = [y0, y1, y2] := by
    match σ, hσ with
    | [y0, y1, y2], _ => exact ⟨y0, y1, y2, rfl⟩
  refine ⟨true, EG.eP, fun _ a na => ⟨⟨rfl, rfl⟩, ?_⟩, fun z => nomatch z⟩
  refine ⟨_, rfl, _, _, false, rfl, fun u h => h, EG.kCB, _, rfl, ?_⟩
  refine iteF ⟨_, rfl, _, _, false, rfl, fun u h => h, EG.kNL, _, rfl, ?_⟩
  refine iteF ⟨_, rfl, _, _, true, rfl, fun u h => h, EG.kLE, _, rfl, ?_⟩
  refine iteT ⟨_, rfl, _, _, true, rfl, fun u h => h, EG.kVE, ?_⟩
  exact q _ s1

end

end LW

namespace LW
open PySem PySem.Spec PyProof.Rows L2
local macro_rules | `(tactic| walk_at "go1") => `(tactic| first
  | refine ⟨_, rfl, ?_⟩
  | refine ⟨_, _, rfl, rfl, ?_⟩
  | refine ⟨show (0 : Int) < _ from by omega, ?_⟩
  | refine ⟨show CMul _ _ from by first | exact .inl ⟨by omega, by omega⟩ | exact .inr ⟨by omega, by omega⟩, ?_⟩
  | refine ⟨show CDiv _ _ from ⟨by omega, by omega⟩, ?_⟩)
local macro_rules | `(tactic| walk_at "go") => `(tactic| repeat walk_at "go1")

section
variable {P : Program} {w : World} {K : PySem.W.Frag} {mg : Str → Option Value} {base : Heap}

abbrev s__law_filling : Stmt := topS 75
theorem sc__law_filling : FnScope ["_law_script", "_law_k", "_law_tops_here", "_law_cell", "_law_filling_here", "_law_at_here", "_law_j"] ["_law_script", "_law_k", "_law_tops_here"] (defScope s__law_filling) := ⟨rfl, rfl, rfl, by decide +kernel, rfl, by decide +kernel, by decide +kernel⟩

def spFilling (K : PySem.W.Frag) : Sp := fun vs H Q _ => ∃ (a tp : Addr) (ns tops : List Int) (k : Int), vs = [.ref a, .int k, .ref tp] ∧ SqL K H a (ns.map V.int) ∧ ns.length ≤ 63 ∧ 0 ≤ k ∧ k ≤ 1000 ∧ H tp = some (.lst (tops.map V.int)) ∧ TopsW tops ∧
  ∀ (fl : Addr) (gs : List Int) (H' : Hp), H fl = none → Same H H' → H' fl = some (.lst (gs.map V.int)) → gs.length = tops.length → (∀ z ∈ gs, Wd 95 z) → Q (.ref fl) H'
theorem ok__law_filling {f : Addr} {fd : FuncData} {k : Nat} (F : Fun K "_law_filling" "_law_filling" s__law_filling f fd) (B : Bl mg) (c__law_at : C8.Cal P w K mg base k "_law_at" (spAt K) []) : FnOk P w K mg base CX0 (k + 1) f fd ["_law_script", "_law_k", "_law_tops_here"] (spFilling K) := by
  refine F.ok sc__law_filling (fun vs H Q E h => ?_) (fun cdv A outer s H vs Q E hr h => ?_)
  · obtain ⟨a, tp, ns, tops, k, rfl, _⟩ := h
    rfl
  obtain ⟨a, tp, ns, tops, k0, rfl, hS, h63, k1, k2, htp, tw, q⟩ := h
  have szl : (10000000 : Nat) < sizeLine := by decide
  have tw1 := tw.1
  have tw3 := tw.2.1
  have ltp : (tops.map V.int).length = tops.length := List.length_map _
  refine ⟨_, (pss_cons (ps_set (i := 3) sc__law_filling.nd rfl (.inl rfl) (C8.pe_c c__law_at hr (Nat.le_refl _) (by rfl) (pa_cons (pv 0) (pa_cons (pv 1) pa_nil))))
    (pss_cons (ps_setLc (i := 4) (own := [("_law_j", 6)]) rfl sc__law_filling.nd rfl rfl (sw_true rfl rfl rfl (by decide +kernel)) (pi_range1 (by rfl) B.range (pa_cons (pe_callB (kLen (K := K) rfl) (by rfl) B.len PySem.boot_len (pa_cons (pv 2) pa_nil)) pa_nil)) (blkOk_by (own := [("_law_j", 6)]) (N := ["_law_script", "_law_k", "_law_tops_here", "_law_cell", "_law_filling_here", "_law_at_here", "_law_j"]) (sc := defScope s__law_filling) (by decide +kernel)) (fun _ _ _ _ _ => (pgN (i := 6) sc__law_filling.nd rfl (.inl rfl) (.inr rfl))) (fun _ _ _ _ _ => pts_nil) (fun _ _ _ _ _ => (pe_op op_mod (C8.pe_c c__law_at hr (Nat.le_refl _) (by rfl) (pa_cons (pv 0) (pa_cons (pe_op op_add (pe_op op_add (pv 1) pe_int) (pv 6)) pa_nil))) (pe_op op_add (pe_ix (kIxL (K := K) rfl) (pv 2) (pv 6) (fun _ _ => rfl)) pe_int))))
    (pss_cons (ps_if (pt_cmpR op_eq (pe_op op_mod (pv 3) pe_int) pe_int (nomark _))
      (pss_cons (ps_set (i := 5) sc__law_filling.nd rfl (.inl rfl) (pe_op op_mod (pe_op op_fdiv (pv 3) pe_int) (pe_callB (kLen (K := K) rfl) (by rfl) B.len PySem.boot_len (pa_cons (pv 2) pa_nil))))
      (pss_one (ps_asg (pe_ix (kIxL (K := K) rfl) (pe_lst (pa_cons (pe_un un_neg pe_int) (pa_cons (pe_op op_add (pe_ix (kIxL (K := K) rfl) (pv 2) (pv 5) (fun _ _ => rfl)) pe_int) (pa_cons (pe_op op_mulW (pv 3) (pe_op op_pow pe_int pe_int)) (pa_cons (pe_op op_mulW (pe_un un_neg (pv 3)) (pe_op op_pow pe_int pe_int)) pa_nil))))) (pe_op op_mod (pe_op op_fdiv (pv 3) pe_int) pe_int) (fun _ _ => rfl)) (pg_sub (pv 4) (pv 5) set_list))))
      pss_nil)
    (pss_one (ps_ret (pv 4)))))), ?_⟩
  refine ⟨_, rfl, _, rfl, a, ns, k0, rfl, hS, h63, k1, by omega, fun cell c0 c1 => ?_⟩
  refine ⟨_, rfl, _, _, rfl, .inl (.of htp), _, rfl, by omega, by omega, fun fl nfl => ?_⟩
  refine lc_it walk_range (fun j H' => Same H H' ∧ ∃ gs : List Int, H' fl = some (.lst (gs.map V.int)) ∧ gs.length = j ∧ ∀ z ∈ gs, Wd 95 z) ⟨sameNew nfl, [], upd_same, rfl, fun z hz => by cases hz⟩ (fun _ _ _ _ => trivial) (fun j xv H1' H1z hj p y => ?_) (fun H1z p => ?_)
  · obtain ⟨s1', gs, hgs, lgs, wgs⟩ := p
    obtain ⟨rfl, rfl⟩ := y
    have hj2 : j < tops.length := by omega
    have htj := tw.2.2 _ (List.getElem_mem hj2)
    refine ⟨rfl, ?_⟩
    refine lcYes ?_
    refine ⟨_, rfl, _, rfl, _, _, rfl, rfl, _, rfl, _, _, rfl, rfl, a, ns, _, rfl, Same.seq s1' hS, h63, by omega, by omega, fun z z0 z1 => ?_⟩
    refine ⟨_, rfl, _, rfl, _, _, _, _, rfl, rfl, .of (s1' _ _ htp), at_of (by omega) (intAt hj2), _, _, rfl, rfl, _, _, rfl, rfl, (by omega), ?_⟩
    have e0 : 0 ≤ z % (tops[j] + 1) := Int.emod_nonneg _ (by omega)
    have e1 : z % (tops[j] + 1) < tops[j] + 1 := Int.emod_lt_of_pos _ (by omega)
    refine ⟨gs.map V.int, hgs, by rw [List.length_map]; omega, sameMut s1' nfl, gs ++ [z % (tops[j] + 1)], by rw [upd_same]; simp, by simp; omega, fun u hu => ?_⟩
    rcases List.mem_append.mp hu with hu | hu
    · exact wgs u hu
    · rw [List.mem_singleton.mp hu]
      exact Wd.mono (n := 10) (show (z % (tops[j] + 1)).natAbs < 2 ^ 10 by omega) (by decide)
  obtain ⟨s1', gs, hgs, lgs, wgs⟩ := p
  have lgs : gs.length = tops.length := by omega

  refine ⟨_, rfl, _, _, rfl, rfl, (show (0 : Int) < 4 by decide), rfl, _, rfl, ?_⟩
  refine yesDec (fun _ => ?_) (fun _ => ?_)
  rotate_left
  · exact ⟨_, rfl, q fl gs H1z nfl s1' hgs lgs wgs⟩
  refine ⟨_, rfl, _, _, rfl, rfl, ⟨(show (0 : Int) < 4 by decide), (show (4 : Int) < 1073741824 by decide)⟩, _, rfl, _, _, rfl, .inl (.of (s1' _ _ htp)), _, _, rfl, rfl, (by omega), ?_⟩
  rw [ltp]
  have e0 : 0 ≤ cell / 4 % (tops.length : Int) := Int.emod_nonneg _ (by omega)
  have e1 : cell / 4 % (tops.length : Int) < (tops.length : Int) := Int.emod_lt_of_pos _ (by omega)
  obtain ⟨j, ej⟩ : ∃ j : Nat, cell / 4 % (tops.length : Int) = (j : Int) := ⟨(cell / 4 % (tops.length : Int)).toNat, by omega⟩
  have hj : j < tops.length := by omega
  have htj := tw.2.2 _ (List.getElem_mem hj)
  have wc : Wd 20 cell := by show cell.natAbs < 2 ^ 20; omega
  have wcn : Wd 20 (-cell) := by show (-cell).natAbs < 2 ^ 20; omega
  have wp : Wd 67 ((10 : Int) ^ (20 : Int).toNat) := by show ((10 : Int) ^ 20).natAbs < 2 ^ 67; decide +kernel
  refine ⟨_, rfl, _, rfl, _, rfl, _, _, _, _, rfl, rfl, .of (s1' _ _ htp), (show atI (tops.map V.int) (cell / 4 % (tops.length : Int)) = some (.int tops[j]) by rw [ej]; exact at_of (by omega) (intAt hj)), _, _, rfl, rfl, ?_⟩
  refine ⟨_, rfl, _, _, rfl, rfl, ⟨by decide, by decide, by decide⟩, _, _, rfl, rfl, wide_mul wc wp (by decide) (by decide) (by decide), ?_⟩
  refine ⟨_, rfl, _, rfl, _, _, rfl, rfl, ⟨by decide, by decide, by decide⟩, _, _, rfl, rfl, wide_mul wcn wp (by decide) (by decide) (by decide), by show 4 ≤ sizeLine; decide, fun A nA => ?_⟩
  obtain ⟨v0, ev0, wv0⟩ : ∃ v0 : Int, atI [V.int (-1), .int (tops[j] + 1), .int (cell * 10 ^ (20 : Int).toNat), .int (-cell * 10 ^ (20 : Int).toNat)] (cell / 12 % 4) = some (.int v0) ∧ Wd 95 v0 := by
    rcases (show cell / 12 % 4 = 0 ∨ cell / 12 % 4 = 1 ∨ cell / 12 % 4 = 2 ∨ cell / 12 % 4 = 3 by omega) with e | e | e | e
    · exact ⟨-1, by rw [e]; rfl, Wd.mono (n := 5) (show ((-1 : Int)).natAbs < 2 ^ 5 by decide) (by decide)⟩
    · exact ⟨tops[j] + 1, by rw [e]; rfl, Wd.mono (n := 5) (show (tops[j] + 1).natAbs < 2 ^ 5 by omega) (by decide)⟩
    · exact ⟨cell * 10 ^ (20 : Int).toNat, by rw [e]; rfl, (Wd.mul wc wp).mono (by decide)⟩
    · exact ⟨-cell * 10 ^ (20 : Int).toNat, by rw [e]; rfl, (Wd.mul wcn wp).mono (by decide)⟩
  have sA := sameNew (o := .lst [.int (-1), .int (tops[j] + 1), .int (cell * 10 ^ (20 : Int).toNat), .int (-cell * 10 ^ (20 : Int).toNat)]) nA
  have hA7 : upd H1z A (.lst [.int (-1), .int (tops[j] + 1), .int (cell * 10 ^ (20 : Int).toNat), .int (-cell * 10 ^ (20 : Int).toNat)]) A = some (.lst [.int (-1), .int (tops[j] + 1), .int (cell * 10 ^ (20 : Int).toNat), .int (-cell * 10 ^ (20 : Int).toNat)]) := upd_same
  have s2A := Same.trans s1' sA
  have hgsA := sA _ _ hgs
  refine ⟨_, rfl, _, _, rfl, rfl, ⟨(show (0 : Int) < 12 by decide), (show (12 : Int) < 1073741824 by decide)⟩, _, _, rfl, rfl, (show (0 : Int) < 4 by decide), _, _, _, _, rfl, rfl, .of hA7, ev0, ?_⟩
  generalize upd H1z A (.lst [.int (-1), .int (tops[j] + 1), .int (cell * 10 ^ (20 : Int).toNat), .int (-cell * 10 ^ (20 : Int).toNat)]) = H2A at *
  refine ⟨_, rfl, _, rfl, fl, _, _, j, rfl, rfl, hgsA, ?_, ?_⟩
  · show ixN _ (cell / 4 % (tops.length : Int)) = _
    unfold ixN
    rw [ej, if_pos (by omega), if_pos (by rw [List.length_map]; omega)]
    simp
  refine ⟨_, rfl, q fl (gs.set j v0) _ nfl (sameMut s2A nfl) (by rw [upd_same, List.map_set]) (by rw [List.length_set]; exact lgs) fun u hu => ?_⟩
  rcases List.mem_or_eq_of_mem_set hu with hu | rfl
  · exact wgs u hu
  · exact wv0

end

end LW

namespace LW
open PySem PySem.Spec PyProof.Rows L2
local macro_rules | `(tactic| walk_at "go1") => `(tactic| first
  | refine ⟨_, rfl, ?_⟩
  | refine ⟨_, _, rfl, rfl, ?_⟩
  | refine ⟨show (0 : Int) < _ from by omega, ?_⟩
  | refine ⟨show CMul _ _ from by first | exact .inl ⟨by omega, by omega⟩ | exact .inr ⟨by omega, by omega⟩, ?_⟩
  | refine ⟨show CDiv _ _ from ⟨by omega, by omega⟩, ?_⟩)
local macro_rules | `(tactic| walk_at "go") => `(tactic| repeat walk_at "go1")

section
variable {P : Program} {w : World} {K : PySem.W.Frag} {mg : Str → Option Value} {base : Heap}

/-- behind which deed a row ends -/
def toOf : Rs → Nat → Nat
  | .loop _ _ b _, j => j + 2 + clen b
  | .ite _ a b _, j => j + 2 + clen a + clen b
  | _, j => j + 1
def to1 : Rs → Nat → Nat
  | .loop _ _ b _, j => j + 2 + clen b
  | _, j => j + 1
theorem AtC.tlC {R : Rs} {ah : List Nat} {i : Nat} {rs : Rs} {fr : Fr} {j : Nat} (h : AtC R ah i rs fr j) (n : rs.isNil = false) : AtC R ah (i + 1) rs.tl fr (toOf rs j) := by
  cases rs with
  | nil => cases n
  | put => exact h.put
  | say => exact h.say
  | ite => exact h.ite
  | loop => exact h.loop
theorem codeMid {R : Rs} {ah : List Nat} {i : Nat} {w : Sm} {a b t : Rs} {fr : Fr} {j : Nat} (h : AtC R ah i (.ite w a b t) fr j) : (codeOf R)[j + 1 + clen a]? = some (.jump (ah ++ [i]) (j + 2 + clen a + clen b)) := by
  obtain ⟨f, r, e, l, _⟩ := h.split
  rw [e, List.getElem?_append_right (by omega), show j + 1 + clen a - f.length = clen a + 1 by omega]
  show ((De.br _ _ :: (codeR a (ah ++ [i, 0]) 0 (.ifF ah (i + 1) t fr) (j + 1) ++ De.jump (ah ++ [i]) (j + 2 + clen a + clen b) :: (codeR b (ah ++ [i, 1]) 0 (.ifF ah (i + 1) t fr) (j + 2 + clen a) ++ codeR t ah (i + 1) fr (j + 2 + clen a + clen b)))) ++ r)[clen a + 1]? = _
  rw [List.cons_append, List.getElem?_cons_succ, List.append_assoc, List.getElem?_append_right (by rw [codeR_len]; exact Nat.le_refl _), codeR_len, Nat.sub_self]
  rfl
theorem deHere {R : Rs} {ah : List Nat} {i : Nat} {rs : Rs} {fr : Fr} {j : Nat} (h : AtC R ah i rs fr j) (n : rs.isNil = false) : (codeOf R)[j]? = some (deAt ⟨ah, i, rs, fr⟩ j) := by
  obtain ⟨f, r, e, l, _⟩ := h.split
  obtain ⟨t, et⟩ := code_hd n ah i fr j
  rw [e, et, ← l]
  simp
abbrev s__law_behind : Stmt := topS 71
theorem sc__law_behind : FnScope ["_law_code_here", "_law_at_here", "_law_one", "_law_to"] ["_law_code_here", "_law_at_here"] (defScope s__law_behind) := ⟨rfl, rfl, rfl, by decide +kernel, rfl, by decide +kernel, by decide +kernel⟩

def spLBehind (K : PySem.W.Frag) : Sp := fun vs H Q _ => ∃ (L : Addr) (R : Rs) (ah : List Nat) (i : Nat) (rs : Rs) (fr : Fr) (j : Nat), vs = [.ref L, .int (j : Nat)] ∧ CodeIn K H L R ∧ (codeOf R).length ≤ 1000 ∧ AtC R ah i rs fr j ∧ rs.isNil = false ∧
  ∀ v : V, PlO K H v (norm fr rs.tl ah (i + 1)) → Q v H
theorem ok__law_behind {f : Addr} {fd : FuncData} {k : Nat} (F : Fun K "_law_behind" "_law_behind" s__law_behind f fd) (B : Bl mg) : FnOk P w K mg base CX0 (k + 1) f fd ["_law_code_here", "_law_at_here"] (spLBehind K) := by
  refine F.ok sc__law_behind (fun vs H Q E h => ?_) (fun cdv A outer s H vs Q E hr h => ?_)
  · obtain ⟨L, R, ah, i, rs, fr, j, rfl, _⟩ := h
    rfl
  obtain ⟨L, R, ah, i, rs, fr, j, rfl, hC, hcl, hA, hn, q⟩ := h
  refine ⟨_, (pss_cons (ps_set (i := 2) sc__law_behind.nd rfl (.inl rfl) (pe_ix (kIxL (K := K) rfl) (pv 0) (pv 1) (fun _ _ => rfl)))
    (pss_cons (ps_set (i := 3) sc__law_behind.nd rfl (.inl rfl) (pe_op op_add (pv 1) pe_int))
    (C8.pss_cut (ps_if (pt_cmpR op_eq (pe_ix (kIxT (K := K) rfl) (pv 2) pe_int (fun _ _ => rfl)) pe_str (nomark _))
      (pss_one (ps_set (i := 3) sc__law_behind.nd rfl (.inl rfl) (pe_ix (kIxT (K := K) rfl) (pv 2) pe_int (fun _ _ => rfl))))
      pss_nil)
    (C8.pss_cut (ps_if (pt_cmpR op_eq (pe_ix (kIxT (K := K) rfl) (pv 2) pe_int (fun _ _ => rfl)) pe_str (nomark _))
      (pss_one (ps_set (i := 3) sc__law_behind.nd rfl (.inl rfl) (pe_ix (kIxT (K := K) rfl) (pe_ix (kIxL (K := K) rfl) (pv 0) (pe_op op_sub (pe_ix (kIxT (K := K) rfl) (pv 2) pe_int (fun _ _ => rfl)) pe_int) (fun _ _ => rfl)) pe_int (fun _ _ => rfl))))
      pss_nil)
    (pss_cons (ps_while PassesOwn.never (PW.pt (pw_and (pt_cmpR op_lt (pv 3) (pe_callB (kLen (K := K) rfl) (by rfl) B.len PySem.boot_len (pa_cons (pv 0) pa_nil)) (nomark _)) (pw_and1 (pt_cmpR op_eq (pe_ix (kIxT (K := K) rfl) (pe_ix (kIxL (K := K) rfl) (pv 0) (pv 3) (fun _ _ => rfl)) pe_int (fun _ _ => rfl)) pe_str (nomark _)))))
      (pss_one (ps_set (i := 3) sc__law_behind.nd rfl (.inl rfl) (pe_ix (kIxT (K := K) rfl) (pe_ix (kIxL (K := K) rfl) (pv 0) (pv 3) (fun _ _ => rfl)) pe_int (fun _ _ => rfl)))))
    (pss_cons (ps_if (pt_cmpR op_eq (pv 3) (pe_callB (kLen (K := K) rfl) (by rfl) B.len PySem.boot_len (pa_cons (pv 0) pa_nil)) (nomark _))
      (pss_one (ps_ret pe_non))
      pss_nil)
    (pss_one (ps_ret (pe_ix (kIxT (K := K) rfl) (pe_ix (kIxL (K := K) rfl) (pv 0) (pv 3) (fun _ _ => rfl)) pe_int (fun _ _ => rfl)))))))))), ?_⟩
  obtain ⟨G, hG⟩ : ∃ G, G = norm fr rs.tl ah (i + 1) := ⟨_, rfl⟩
  rw [← hG] at q
  obtain ⟨us, dv, hL, hul, hat, hdv⟩ := hC.at_ (deHere hA hn)
  obtain ⟨a, pa, ra, rx, xs, rfl, hT, hP, hR, hRd, xi, xl⟩ := deRow (p := ⟨ah, i, rs, fr⟩) hn hdv
  dsimp only at hT xi xl
  refine ⟨_, rfl, _, rfl, _, _, _, _, rfl, rfl, .of hL, atI_nat hat, ?_⟩
  refine ⟨_, rfl, _, _, rfl, rfl, ?_⟩
  refine ⟨fun σ' H' => H = H' ∧ σ' = [some (.ref L), some (.int (j : Nat)), some (.ref a), some (.int (to1 rs j : Nat))], ?_, ?_⟩
  · refine ⟨_, rfl, _, _, _, _, rfl, rfl, hT, atI_nat (j := 0) rfl, rfl, _, rfl, ?_⟩
    refine yesDec (fun c => ?_) (fun c => ?_)
    · obtain ⟨w, ws, b, t, rfl⟩ := (kindIs rs).2.2.2.1.mp (strEq.mp c)
      rw [xl _ _ _ _ rfl] at hT
      exact ⟨_, rfl, _, _, _, _, rfl, rfl, hT, atI_nat (j := 3) rfl, rfl, rfl⟩
    · refine ⟨rfl, ?_⟩
      have : to1 rs j = j + 1 := by
        cases rs with
        | loop w ws b t => exact absurd (strEq.mpr ((kindIs _).2.2.2.1.mpr ⟨_, _, _, _, rfl⟩)) c
        | _ => rfl
      rw [this]
      rfl
  rintro σ' H' ⟨rfl, rfl⟩
  refine ⟨fun σ' H' => H = H' ∧ σ' = [some (.ref L), some (.int (j : Nat)), some (.ref a), some (.int (toOf rs j : Nat))], ?_, ?_⟩
  · refine ⟨_, rfl, _, _, _, _, rfl, rfl, hT, atI_nat (j := 0) rfl, rfl, _, rfl, ?_⟩
    refine yesDec (fun c => ?_) (fun c => ?_)
    · obtain ⟨w, a1, b, t, rfl⟩ := (kindIs rs).2.2.1.mp (strEq.mp c)
      rw [xi _ _ _ _ rfl] at hT
      obtain ⟨us2, dv2, hL2, hul2, hat2, hdv2⟩ := hC.at_ (codeMid hA)
      rw [hL] at hL2
      cases hL2
      obtain ⟨a2, x2, rfl, hT2⟩ := deJump hdv2
      have hmid : atI us (((j + 2 + clen a1 : Nat) : Int) - 1) = some (.ref a2) := by
        rw [show ((j + 2 + clen a1 : Nat) : Int) - 1 = ((j + 1 + clen a1 : Nat) : Int) by omega]
        exact atI_nat hat2
      refine ⟨_, rfl, _, rfl, _, _, _, _, rfl, rfl, hT, atI_nat (j := 3) rfl, _, _, rfl, rfl, _, _, _, _, rfl, rfl, .of hL, hmid, ?_⟩
      exact ⟨_, _, _, _, rfl, rfl, hT2, atI_nat (j := 2) rfl, rfl, rfl⟩
    · refine ⟨rfl, ?_⟩
      have : toOf rs j = to1 rs j := by
        cases rs with
        | ite w a b t => exact absurd (strEq.mpr ((kindIs _).2.2.1.mpr ⟨_, _, _, _, rfl⟩)) c
        | _ => rfl
      rw [this]
  rintro σ' H' ⟨rfl, rfl⟩
  have hA2 := hA.tlC hn
  refine ⟨fun m σ H' => H = H' ∧ ∃ (to : Nat) (ah' : List Nat) (i' : Nat) (rs' : Rs) (fr' : Fr), σ = [some (.ref L), some (.int (j : Nat)), some (.ref a), some (.int (to : Nat))] ∧ AtC R ah' i' rs' fr' to ∧ norm fr' rs' ah' i' = G ∧ frD fr' = m,
    ⟨_, rfl, _, _, _, _, _, rfl, hA2, hG.symm, rfl⟩, ?_⟩
  clear hA2
  rintro m σ H' ⟨rfl, to, ah', i', rs', fr', rfl, hA2, hG2, hm⟩
  rcases codeLook hA2 with ⟨p, e2, hA3, hn3, hc3⟩ | ⟨e2, ej⟩ | ⟨pl, e, ah3, i3, rs3, fr3, hc3, hA3, e2, hlt⟩
  · obtain ⟨us2, dv2, hL2, hul2, hat2, hdv2⟩ := hC.at_ hc3
    rw [hL] at hL2
    cases hL2
    obtain ⟨a2, pa2, ra2, rx2, xs2, rfl, hT2, hP2, _⟩ := deRow (p := p) hn3 hdv2
    have hj2 : to < us.length := by
      obtain ⟨h, _⟩ := List.getElem?_eq_some_iff.mp hat2
      exact h
    refine ⟨_, rfl, _, rfl, _, _, rfl, .inl (.of hL), _, _, rfl, rfl, _, rfl, ?_⟩
    refine yesDec (fun _ => ?_) (fun c => absurd (show (to : Int) < (us.length : Int) by omega) c)
    refine ⟨_, rfl, _, rfl, _, _, _, _, rfl, rfl, .of hL, atI_nat hat2, _, _, _, _, rfl, rfl, hT2, atI_nat (j := 0) rfl, rfl, _, rfl, ?_⟩
    refine yesDec (fun c => absurd (strEq.mp c) (kindIs p.rs).2.2.2.2) (fun _ => ?_)
    refine ⟨_, rfl, _, rfl, _, _, rfl, .inl (.of hL), rfl, _, rfl, ?_⟩
    refine yesDec (fun c => absurd (intEq.mp c) (by omega)) (fun _ => ?_)
    refine ⟨_, rfl, _, rfl, _, _, _, _, rfl, rfl, .of hL, atI_nat hat2, _, _, _, _, rfl, rfl, hT2, atI_nat (j := 1) rfl, ?_⟩
    refine q _ ?_
    rw [← hG2, e2]
    exact ⟨pa2, rfl, hP2⟩
  · obtain ⟨us2, hL2, hU2⟩ := id hC
    rw [hL] at hL2
    cases hL2
    have hul2 : us.length = (codeOf R).length := by rw [hU2.len, List.length_map]
    refine ⟨_, rfl, _, rfl, _, _, rfl, .inl (.of hL), _, _, rfl, rfl, _, rfl, ?_⟩
    refine yesDec (fun c => absurd (show (to : Int) < (us.length : Int) from c) (by omega)) (fun _ => ?_)
    refine ⟨_, rfl, _, rfl, _, _, rfl, .inl (.of hL), rfl, _, rfl, ?_⟩
    refine yesDec (fun _ => ?_) (fun c => absurd (intEq.mpr (by omega)) c)
    refine q _ ?_
    rw [← hG2, e2]
    exact rfl
  · obtain ⟨us2, dv2, hL2, hul2, hat2, hdv2⟩ := hC.at_ hc3
    rw [hL] at hL2
    cases hL2
    obtain ⟨a2, x2, rfl, hT2⟩ := deJump hdv2
    have hj2 : to < us.length := by
      obtain ⟨h, _⟩ := List.getElem?_eq_some_iff.mp hat2
      exact h
    refine ⟨_, rfl, _, rfl, _, _, rfl, .inl (.of hL), _, _, rfl, rfl, _, rfl, ?_⟩
    refine yesDec (fun _ => ?_) (fun c => absurd (show (to : Int) < (us.length : Int) by omega) c)
    refine ⟨_, rfl, _, rfl, _, _, _, _, rfl, rfl, .of hL, atI_nat hat2, _, _, _, _, rfl, rfl, hT2, atI_nat (j := 0) rfl, rfl, _, rfl, ?_⟩
    refine yesDec (fun _ => ?_) (fun c => absurd (strEq.mpr rfl) c)
    refine ⟨_, fun σ' H' z => z, ?_⟩
    refine ⟨_, rfl, _, rfl, _, _, _, _, rfl, rfl, .of hL, atI_nat hat2, _, _, _, _, rfl, rfl, hT2, atI_nat (j := 2) rfl, ?_⟩
    exact ⟨frD fr3, by omega, rfl, e, ah3, i3, rs3, fr3, rfl, hA3, e2.trans hG2, rfl⟩

end

end LW

namespace LW
open PySem PySem.Spec PyProof.Rows L2
local macro_rules | `(tactic| walk_at "go1") => `(tactic| first
  | refine ⟨_, rfl, ?_⟩
  | refine ⟨_, _, rfl, rfl, ?_⟩
  | refine ⟨show (0 : Int) < _ from by omega, ?_⟩
  | refine ⟨show CMul _ _ from by first | exact .inl ⟨by omega, by omega⟩ | exact .inr ⟨by omega, by omega⟩, ?_⟩
  | refine ⟨show CDiv _ _ from ⟨by omega, by omega⟩, ?_⟩)
local macro_rules | `(tactic| walk_at "go") => `(tactic| repeat walk_at "go1")

section
variable {P : Program} {w : World} {K : PySem.W.Frag} {mg : Str → Option Value} {base : Heap}

def dO : Option Pos' → PyData
  | none => .none
  | some p => dPl (p.ah ++ [p.i])
theorem dpO {H : Hp} {v : V} {o : Option Pos'} (h : PlO K H v o) : Dp K H v (dO o) := by
  cases o with
  | none =>
    have : v = .non := h
    subst this
    exact .non
  | some p =>
    obtain ⟨pa, rfl, h1⟩ := h
    exact dpPlace h1
theorem lyO (o : Option Pos') : Ly 2 (dO o) := by
  cases o with
  | none => exact ⟨by simp [dO, PyData.canLay0], by simp [dO, PyData.depth]⟩
  | some p => exact lyPl _
abbrev s__law_behinds_right : Stmt := topS 72
theorem sc__law_behinds_right : FnScope ["_law_program_here", "_law_code_here", "_law_at_here"] ["_law_program_here", "_law_code_here"] (defScope s__law_behinds_right) := ⟨rfl, rfl, rfl, by decide +kernel, rfl, by decide +kernel, by decide +kernel⟩

def spBehR (K : PySem.W.Frag) (C : Addr) : Sp := fun vs H Q _ => ∃ (x L : Addr) (tops : List Int) (R : Rs), vs = [.ref x, .ref L] ∧ PgIn K H C x tops R ∧ CodeIn K H L R ∧ (codeOf R).length ≤ 1000 ∧ ∀ H', Same H H' → Q (.bl true) H'
theorem ok__law_behinds_right {f C : Addr} {fd : FuncData} {k : Nat} (F : Fun K "_law_behinds_right" "_law_behinds_right" s__law_behinds_right f fd) (B : Bl mg) (c_behind : C8.Cal P w K mg base k "behind" (spBehind K C) []) (c__law_behind : C8.Cal P w K mg base k "_law_behind" (spLBehind K) []) : FnOk P w K mg base CX0 (k + 1) f fd ["_law_program_here", "_law_code_here"] (spBehR K C) := by
  refine F.ok sc__law_behinds_right (fun vs H Q E h => ?_) (fun cdv A outer s H vs Q E hr h => ?_)
  · obtain ⟨x, L, tops, R, rfl, _⟩ := h
    rfl
  obtain ⟨x, L, tops, R, rfl, hP, hC, hcl, q⟩ := h
  refine ⟨_, (pss_cons (ps_for PassesOwn.never rfl (pi_range1 (by rfl) B.range (pa_cons (pe_callB (kLen (K := K) rfl) (by rfl) B.len PySem.boot_len (pa_cons (pv 1) pa_nil)) pa_nil)) (pg_name (i := 2) sc__law_behinds_right.nd rfl (.inl rfl))
      (pss_one (ps_if (pt_cmpR op_ne (pe_ix (kIxT (K := K) rfl) (pe_ix (kIxL (K := K) rfl) (pv 1) (pv 2) (fun _ _ => rfl)) pe_int (fun _ _ => rfl)) pe_str (nomark _))
        (pss_one (ps_if (pt_cmpR (kNeD (K := K) rfl hr.units) (C8.pe_c c_behind hr (Nat.le_refl _) (by rfl) (pa_cons (pv 0) (pa_cons (pe_ix (kIxT (K := K) rfl) (pe_ix (kIxL (K := K) rfl) (pv 1) (pv 2) (fun _ _ => rfl)) pe_int (fun _ _ => rfl)) pa_nil))) (C8.pe_c c__law_behind hr (Nat.le_refl _) (by rfl) (pa_cons (pv 1) (pa_cons (pv 2) pa_nil))) (nomark _))
          (pss_one (ps_ret pe_bl))
          pss_nil))
        pss_nil)))
    (pss_one (ps_ret pe_bl))), ?_⟩
  obtain ⟨us, hL, hU⟩ := id hC
  have lus : us.length = (codeOf R).length := by rw [hU.len, List.length_map]
  have szl : (100000 : Nat) < sizeLine := by decide
  refine ⟨_, rfl, _, _, rfl, .inl (.of hL), _, rfl, by omega, by omega, ?_⟩
  refine for_range (lo := 0) (n := us.length) (fun j σ H' => Same H H' ∧ ∃ y, σ = [some (.ref x), some (.ref L), y]) ⟨Same.refl _, none, rfl⟩ (fun j σ H1 hj z => ?_) (fun σ H1 z => ?_)
  · obtain ⟨s1, y, rfl⟩ := z
    obtain ⟨d, ed⟩ : ∃ d, (codeOf R)[j]? = some d := ⟨_, List.getElem?_eq_getElem (by omega)⟩
    obtain ⟨us2, dv, hL2, hul, hat, hdv⟩ := (hC.same s1).at_ ed
    rcases codeAt .top j d ed with ⟨pl, to, rfl⟩ | ⟨p, hA, hn, rfl⟩
    · obtain ⟨a2, x2, rfl, hT2⟩ := deJump hdv
      refine ⟨_, rfl, _, rfl, _, _, _, _, rfl, rfl, .of hL2, at_of (by omega) hat, ?_⟩
      refine ⟨_, _, _, _, rfl, rfl, hT2, atI_nat (j := 0) rfl, rfl, _, rfl, ?_⟩
      refine notDec (fun c => absurd rfl c) (fun _ => ?_)
      exact ⟨s1, _, rfl⟩
    · rw [Nat.zero_add] at hA hdv
      obtain ⟨a2, pa2, ra2, rx2, xs2, rfl, hT2, hP2, _⟩ := deRow (p := p) hn hdv
      refine ⟨_, rfl, _, rfl, _, _, _, _, rfl, rfl, .of hL2, at_of (by omega) hat, ?_⟩
      refine ⟨_, _, _, _, rfl, rfl, hT2, atI_nat (j := 0) rfl, rfl, _, rfl, ?_⟩
      refine notDec (fun _ => ?_) (fun c => absurd (strEq.mp c) (kindIs p.rs).2.2.2.2)
      have hP1 := hP.same s1
      refine ⟨_, rfl, _, rfl, _, rfl, _, _, _, _, rfl, rfl, .of hL2, at_of (by omega) hat, _, _, _, _, rfl, rfl, hT2, atI_nat (j := 1) rfl, x, pa2, tops, R, p.ah, p.i, p.rs, p.fr, rfl, hP1, hA.at_, hn, hP2, fun H2 v2 s2 hv2 => ?_⟩
      have hC2 := (hC.same s1).same s2
      refine ⟨_, rfl, _, rfl, L, R, p.ah, p.i, p.rs, p.fr, j, by rw [show (0 : Int) + (j : Int) = ((j : Nat) : Int) by omega]; rfl, hC2, hcl, hA, hn, fun v3 hv3 => ?_⟩
      refine ⟨dO (norm p.fr p.rs.tl p.ah (p.i + 1)), dO (norm p.fr p.rs.tl p.ah (p.i + 1)), dpO hv2, dpO hv3, (lyO _).shaped (by decide), (lyO _).shaped (by decide), _, rfl, ?_⟩
      rw [(lyO _).same]
      exact iteF ⟨Same.trans s1 s2, _, rfl⟩
  · exact q _ z.1

end

end LW

namespace LW
open PySem PySem.Spec PyProof.Rows L2
local macro_rules | `(tactic| walk_at "go1") => `(tactic| first
  | refine ⟨_, rfl, ?_⟩
  | refine ⟨_, _, rfl, rfl, ?_⟩
  | refine ⟨show (0 : Int) < _ from by omega, ?_⟩
  | refine ⟨show CMul _ _ from by first | exact .inl ⟨by omega, by omega⟩ | exact .inr ⟨by omega, by omega⟩, ?_⟩
  | refine ⟨show CDiv _ _ from ⟨by omega, by omega⟩, ?_⟩)
local macro_rules | `(tactic| walk_at "go") => `(tactic| repeat walk_at "go1")

section
variable {P : Program} {w : World} {K : PySem.W.Frag} {mg : Str → Option Value} {base : Heap}

abbrev s__law_whole : Stmt := topS 58
theorem sc__law_whole : FnScope ["_law_thing"] ["_law_thing"] (defScope s__law_whole) := ⟨rfl, rfl, rfl, by decide +kernel, rfl, by decide +kernel, by decide +kernel⟩

def spWhole : Sp := fun vs H Q _ => ∃ (i : Int), vs = [.int i] ∧ Q (.bl true) H
theorem ok__law_whole {f : Addr} {fd : FuncData} {k : Nat} (F : Fun K "_law_whole" "_law_whole" s__law_whole f fd) (B : Bl mg) : FnOk P w K mg base CX0 (k + 1) f fd ["_law_thing"] spWhole := by
  refine F.ok sc__law_whole (fun vs H Q E h => ?_) (fun cdv A outer s H vs Q E hr h => ?_)
  · obtain ⟨i, rfl, _⟩ := h
    rfl
  obtain ⟨i, rfl, q⟩ := h
  refine ⟨_, (pss_one (ps_ret (pe_and (pe_callB (kIsi (K := K) rfl) (by rfl) B.isinstance (by decide +kernel) (pa_cons (pv 0) (pa_cons (pe_bltn (v := .ty "int") (by rfl) B.int (by decide +kernel) rfl) pa_nil))) (pe_one (pe_not (pe_callB (kIsi (K := K) rfl) (by rfl) B.isinstance (by decide +kernel) (pa_cons (pv 0) (pa_cons (pe_bltn (v := .ty "bool") (by rfl) B.bool (by decide +kernel) rfl) pa_nil)))))))), ?_⟩
  refine ⟨_, rfl, _, _, _, _, true, rfl, .ty _, .base (.int _), kit_ty (by decide +kernel), _, rfl, ?_⟩
  refine iteT ?_
  refine ⟨_, rfl, _, _, _, _, false, rfl, .ty _, .base (.int _), kit_ty (by decide +kernel), _, rfl, ?_⟩
  exact q

/-- two lists are changed, what stood before else stays -/
def But2 (a b : Addr) (H H' : Hp) : Prop := ∀ c o, c ≠ a → c ≠ b → H c = some o → H' c = some o
theorem But2.refl (a b : Addr) (H : Hp) : But2 a b H H := fun _ _ _ _ h => h
theorem But2.same {a b : Addr} {H H1 H2 : Hp} (h : But2 a b H H1) (s : Same H1 H2) : But2 a b H H2 := fun c o n m e => s c o (h c o n m e)
theorem But2.new {a b L : Addr} {H H1 : Hp} {o : HO} (h : But2 a b H H1) (n : H L = none) : But2 a b H (upd H1 L o) := fun c u n1 n2 e => by
  rw [upd_ne (fun z => by rw [z, n] at e; cases e)]
  exact h c u n1 n2 e
theorem But2.mutA {a b : Addr} {H H1 : Hp} {o : HO} (h : But2 a b H H1) : But2 a b H (upd H1 a o) := fun c u n1 n2 e => by
  rw [upd_ne n1]
  exact h c u n1 n2 e
theorem But2.mutB {a b : Addr} {H H1 : Hp} {o : HO} (h : But2 a b H H1) : But2 a b H (upd H1 b o) := fun c u n1 n2 e => by
  rw [upd_ne n2]
  exact h c u n1 n2 e
/-- a list, and one like it -/
def PairI (K : PySem.W.Frag) (a b : Addr) (H : Hp) (v : V) : Prop := ∃ (t l1 l2 : Addr) (ns : List Int), v = .ref t ∧ SqT K H t [.ref l1, .ref l2] ∧ t ≠ a ∧ t ≠ b ∧ l1 ≠ a ∧ l1 ≠ b ∧ l2 ≠ a ∧ l2 ≠ b ∧ H l1 = some (.lst (ns.map V.int)) ∧ H l2 = some (.lst (ns.map V.int))
theorem PairI.but {a b : Addr} {H H' : Hp} {v : V} {xs ys : List V} (e : But2 a b H H') (ha : H a = some (.lst xs)) (hb : H b = some (.lst ys)) (h : PairI K a b H v) : PairI K a b H' v := by
  obtain ⟨t, l1, l2, ns, e0, h1, n1, n2, n3, n4, n5, n6, h2, h3⟩ := h
  have ts : TS H H' := fun c => ⟨fun zs h => e c _ (fun z => by rw [z, ha] at h; cases h) (fun z => by rw [z, hb] at h; cases h) h, fun o u h => e c _ (fun z => by rw [z, ha] at h; cases h) (fun z => by rw [z, hb] at h; cases h) h⟩
  exact ⟨t, l1, l2, ns, e0, tsTup ts h1, n1, n2, n3, n4, n5, n6, e _ _ n3 n4 h2, e _ _ n5 n6 h3⟩
def dOut : Out → PyData
  | .long p hs => .tuple [.str "long", dPl (p.ah ++ [p.i]), .list (dI hs)]
  | .broken p hs => .tuple [.str "broken", dPl (p.ah ++ [p.i]), .list (dI hs)]
  | .done hs m => .tuple [.str "done", .list (dI hs), .int (m : Int)]
theorem dpOut {H : Hp} {t hd : Addr} {o : Out} (h : OutIn K H t hd o) : Dp K H (.ref t) (dOut o) := by
  cases o with
  | long p hs =>
    obtain ⟨pl, h1, h2, h3⟩ := h
    exact .tup h1 (.cons (.str _) (.cons (dpPlace h2) (.cons (.lst (.of h3) (dpInts hs)) .nil)))
  | broken p hs =>
    obtain ⟨pl, h1, h2, h3⟩ := h
    exact .tup h1 (.cons (.str _) (.cons (dpPlace h2) (.cons (.lst (.of h3) (dpInts hs)) .nil)))
  | done hs m => exact .tup h.1 (.cons (.str _) (.cons (.lst (.of h.2) (dpInts hs)) (.cons (.int _) .nil)))
theorem lyW4 : (PyData.str "long").canLay0 = true ∧ (PyData.str "broken").canLay0 = true ∧ (PyData.str "done").canLay0 = true ∧ (PyData.str "loop").canLay0 = true ∧ (PyData.str "filling").canLay0 = true ∧ (PyData.str "").canLay0 = true := by decide +kernel
theorem lyOut (o : Out) : Ly 4 (dOut o) := by
  cases o with
  | long p hs => exact (lyTup (n := 2) (lyCons ((lyStr lyW4.1).up (by decide)) (lyCons ((lyPl _).up (by decide)) (lyCons ((lyLst (lyInts hs)).up (by decide)) (lyNil _))))).up (by decide)
  | broken p hs => exact (lyTup (n := 2) (lyCons ((lyStr lyW4.2.1).up (by decide)) (lyCons ((lyPl _).up (by decide)) (lyCons ((lyLst (lyInts hs)).up (by decide)) (lyNil _))))).up (by decide)
  | done hs m => exact (lyTup (n := 2) (lyCons ((lyStr lyW4.2.2.1).up (by decide)) (lyCons ((lyLst (lyInts hs)).up (by decide)) (lyCons ((lyInt _).up (by decide)) (lyNil _))))).up (by decide)
theorem cutNegD {xs : List V} {y : V} : cutV (xs ++ [y]) (some (-1)) none = [y] := by
  have e : HT.sIx (xs ++ [y]).length 0 (some (-1)) = xs.length := by
    unfold HT.sIx
    simp
    try omega
  unfold cutV
  rw [HT.sIx_none, e, List.drop_left]
  simp
def outHs : Out → List Int
  | .long _ hs => hs
  | .broken _ hs => hs
  | .done hs _ => hs
theorem step_len (p : Pos') (hs : List Int) : (stepH p hs).length = hs.length := by
  unfold stepH
  split
  · exact List.length_set
  · rfl
theorem runF_len (tops : List Int) : ∀ (f : Nat) (o : Option Pos') (hs : List Int) (m : Nat), (outHs (runF tops o hs m f)).length = hs.length
  | _, none, hs, m => by rw [runF_none]; rfl
  | 0, some p, hs, m => by rw [runF_zero]; rfl
  | f + 1, some p, hs, m => by
    cases c : badP tops p hs with
    | true => rw [runF_bad c]; rfl
    | false => rw [runF_go c, runF_len tops f, step_len]

/-- what a run tells: its list stands at one of two places -/
theorem outTwo {H : Hp} {u hd : Addr} {o : Out} (h : OutIn K H u hd o) : ∃ (z : Str) (x1 x2 : V) (k : Nat), SqT K H u [.str z, x1, x2] ∧ H hd = some (.lst ((outHs o).map V.int)) ∧ (k = 1 ∨ k = 2) ∧
    (∀ i x, [x1, x2][i]? = some x → (i + 1 = k → x = .ref hd) ∧ (i + 1 ≠ k → (∃ pl ps, x = .ref pl ∧ SqT K H pl ps) ∨ ∃ m : Int, x = .int m)) ∧ (z = "done" → ∃ m : Int, x2 = .int m) := by
  have pick : ∀ {x1 x2 : V} {P : Nat → V → Prop}, P 0 x1 → P 1 x2 → ∀ i x, [x1, x2][i]? = some x → P i x := fun {x1 x2 P} h1 h2 i x e => by
    match i, e with
    | 0, e => cases e; exact h1
    | 1, e => cases e; exact h2
  cases o with
  | long p hs =>
    obtain ⟨pl, h1, h2, h3⟩ := h
    exact ⟨_, _, _, 2, h1, h3, .inr rfl, pick ⟨fun e => absurd e (by decide), fun _ => .inl ⟨pl, _, rfl, h2⟩⟩ ⟨fun _ => rfl, fun e => absurd rfl e⟩, fun e => absurd e (by decide +kernel)⟩
  | broken p hs =>
    obtain ⟨pl, h1, h2, h3⟩ := h
    exact ⟨_, _, _, 2, h1, h3, .inr rfl, pick ⟨fun e => absurd e (by decide), fun _ => .inl ⟨pl, _, rfl, h2⟩⟩ ⟨fun _ => rfl, fun e => absurd rfl e⟩, fun e => absurd e (by decide +kernel)⟩
  | done hs m => exact ⟨_, _, _, 1, h.1, h.2, .inl rfl, pick ⟨fun _ => rfl, fun e => absurd rfl e⟩ ⟨fun e => absurd e (by decide), fun _ => .inr ⟨_, rfl⟩⟩, fun _ => ⟨_, rfl⟩⟩
theorem noList {H : Hp} {x : V} (h : (∃ pl ps, x = .ref pl ∧ SqT K H pl ps) ∨ ∃ m : Int, x = .int m) : ∃ n, TyX K H x (.type n) ∧ kitB n "list" = some false := by
  rcases h with ⟨pl, ps, rfl, h⟩ | ⟨m, rfl⟩
  · exact ⟨"tuple", tyTup h, by decide +kernel⟩
  · exact ⟨"int", .base (.int _), by decide +kernel⟩
abbrev s__law_same : Stmt := topS 73
theorem sc__law_same : FnScope ["_law_found", "_law_due", "_law_held", "_law_part", "_law_one"] ["_law_found", "_law_due"] (defScope s__law_same) := ⟨rfl, rfl, rfl, by decide +kernel, rfl, by decide +kernel, by decide +kernel⟩

def spSame (K : PySem.W.Frag) : Sp := fun vs H Q _ => ∃ (t1 t2 h1 h2 : Addr) (o : Out), vs = [.ref t1, .ref t2] ∧ OutIn K H t1 h1 o ∧ OutIn K H t2 h2 o ∧ (outHs o).length ≤ 1000 ∧ ∀ H', Same H H' → Q (.bl true) H'
theorem ok__law_same {f : Addr} {fd : FuncData} {k : Nat} (F : Fun K "_law_same" "_law_same" s__law_same f fd) (B : Bl mg) (c__law_whole : C8.Cal P w K mg base k "_law_whole" spWhole []) : FnOk P w K mg base CX0 (k + 1) f fd ["_law_found", "_law_due"] (spSame K) := by
  refine F.ok sc__law_same (fun vs H Q E h => ?_) (fun cdv A outer s H vs Q E hr h => ?_)
  · obtain ⟨t1, t2, h1, h2, o, rfl, _⟩ := h
    rfl
  obtain ⟨t1, t2, h1, h2, o, rfl, hO1, hO2, hl, q⟩ := h
  refine ⟨_, (pss_cons (ps_if (PW.pt (pw_or (pt_not (pt_val (pe_callB (kIsi (K := K) rfl) (by rfl) B.isinstance (by decide +kernel) (pa_cons (pv 0) (pa_cons (pe_bltn (v := .ty "tuple") (by rfl) B.tuple (by decide +kernel) rfl) pa_nil))))) (pw_or1 (pt_cmpR (kNeD (K := K) rfl hr.units) (pv 0) (pv 1) (nomark _)))))
      (pss_one (ps_ret pe_bl))
      pss_nil)
    (pss_cons (ps_setLc (i := 2) (own := [("_law_part", 3)]) rfl sc__law_same.nd rfl rfl (sw_true rfl rfl rfl (by decide +kernel)) (kTup_ (K := K) rfl (pe_slice (kSlT (K := K) rfl) (pv 0) (po_some pe_int) po_none)) (blkOk_by (own := [("_law_part", 3)]) (N := ["_law_found", "_law_due", "_law_held", "_law_part", "_law_one"]) (sc := defScope s__law_same) (by decide +kernel)) (fun _ _ _ _ _ => (pgN (i := 3) sc__law_same.nd rfl (.inl rfl) (.inr rfl))) (fun _ _ _ _ _ => (pts_one (pt_val (pe_callB (kIsi (K := K) rfl) (by rfl) B.isinstance (by decide +kernel) (pa_cons (pv 3) (pa_cons (pe_bltn (v := .ty "list") (by rfl) B.list (by decide +kernel) rfl) pa_nil)))))) (fun _ _ _ _ _ => (pv 3)))
    (C8.pss_cut (ps_if (PW.pt (pw_or (pt_cmpR op_ne (pe_callB (kLen (K := K) rfl) (by rfl) B.len PySem.boot_len (pa_cons (pv 2) pa_nil)) pe_int (nomark _)) (pw_or1 (pt_cmpR (kNeD (K := K) rfl hr.units) (pe_lc (own := [("_law_one", 4)]) rfl sc__law_same.nd (kList_ (K := K) rfl (pe_ix (kIxL (K := K) rfl) (pv 2) pe_int (fun _ _ => rfl))) (blkOk_by (own := [("_law_one", 4)]) (N := ["_law_found", "_law_due", "_law_held", "_law_part", "_law_one"]) (sc := defScope s__law_same) (by decide +kernel)) (fun _ _ _ _ _ => (pgN (i := 4) sc__law_same.nd rfl (.inl rfl) (.inr rfl))) (fun _ _ _ _ _ => (pts_one (pt_not (pt_val (C8.pe_c c__law_whole hr (Nat.le_refl _) (by rfl) (pa_cons (pv 4) pa_nil)))))) (fun _ _ _ _ _ => (pv 4))) (pe_lst pa_nil) (nomark _)))))
      (pss_one (ps_ret pe_bl))
      pss_nil)
    (pss_one (ps_ret (pe_or (pe_cmpR op_ne (pe_ix (kIxT (K := K) rfl) (pv 0) pe_int (fun _ _ => rfl)) pe_str (nomark _)) (pe_one (C8.pe_c c__law_whole hr (Nat.le_refl _) (by rfl) (pa_cons (pe_ix (kIxT (K := K) rfl) (pv 0) pe_int (fun _ _ => rfl)) pa_nil))))))))), ?_⟩
  have szl : (100000 : Nat) < sizeLine := by decide
  obtain ⟨z, x1, x2, k0, hu, hh, hk, hx, hz⟩ := outTwo hO1
  have ly := lyOut o
  refine ⟨_, rfl, _, _, _, _, true, rfl, .ty _, tyTup hu, kit_ty (by decide +kernel), _, rfl, ?_⟩
  refine iteF ⟨_, rfl, _, rfl, dOut o, dOut o, dpOut hO1, dpOut hO2, ly.shaped (by decide), ly.shaped (by decide), _, rfl, ?_⟩
  rw [ly.same]
  refine iteF ?_
  refine ⟨_, rfl, _, rfl, slUseN hu fun p2 G1 g1 hp2 => ?_⟩
  rw [show cutV [.str z, x1, x2] (some 1) none = [x1, x2] from cutDrop 1] at hp2
  refine ⟨p2, rfl, ⟨_, hp2⟩, fun D nD => ?_⟩
  refine lc_it walk_tup (fun i H' => Same G1 H' ∧ H' D = some (.lst (if i < k0 then [] else [.ref h1]))) ⟨sameNew nD, by rw [upd_same, if_pos (by omega)]⟩ (fun i H' _ p => tupS p.1 hp2) (fun i v H7' H7 hi p y => ?_) (fun H7 p => ?_)
  · obtain ⟨s7, hD⟩ := p
    obtain ⟨rfl, ex⟩ := y
    refine ⟨rfl, ?_⟩
    obtain ⟨hx1, hx2⟩ := hx i v ex
    have hh7 := (Same.trans g1 s7) _ _ hh
    by_cases ck : i + 1 = k0
    · rw [if_pos (by omega)] at hD
      rw [hx1 ck]
      refine ⟨_, rfl, _, _, _, _, true, rfl, .ty _, tyLst (.of hh7), kit_ty (by decide +kernel), _, rfl, ?_⟩
      refine iteT ⟨_, rfl, _, hD, by show 0 < sizeLine; decide, sameMut s7 nD, ?_⟩
      rw [upd_same, if_neg (by omega)]
      rfl
    · obtain ⟨ty, ht, hkt⟩ := noList (K := K) (H := H7) ((hx2 ck).imp (fun ⟨pl, ps, e, h⟩ => ⟨pl, ps, e, tupS (Same.trans g1 s7) h⟩) id)
      refine ⟨_, rfl, _, _, _, _, false, rfl, .ty _, ht, kit_ty hkt, _, rfl, ?_⟩
      refine iteF ⟨s7, ?_⟩
      rw [hD]
      by_cases c2 : i < k0
      · rw [if_pos c2, if_pos (by omega)]
      · rw [if_neg c2, if_neg (by omega)]
  obtain ⟨s7, hD⟩ := p
  rw [if_neg (by show ¬ 2 < k0; omega)] at hD
  have s07 := Same.trans g1 s7
  have hh7 := s07 _ _ hh
  have hu7 := tupS s07 hu
  refine ⟨fun σ' H' => Same H H' ∧ σ' = [some (.ref t1), some (.ref t2), some (.ref D), none, none], ?_, ?_⟩
  · refine ⟨_, rfl, _, _, rfl, .inl (.of hD), rfl, _, rfl, ?_⟩
    refine notDec (fun c => absurd rfl c) (fun _ => ?_)
    refine ⟨_, rfl, _, _, _, _, rfl, rfl, .of hD, atI_nat (j := 0) rfl, h1, rfl, ⟨_, .of hh7⟩, fun D2 nD2 => ?_⟩
    refine lc_it (walk_list (xs := (outHs o).map V.int)) (fun i H' => Same H7 H' ∧ H' D2 = some (.lst [])) ⟨sameNew nD2, upd_same⟩ (fun i H' _ p => .of (p.1 _ _ hh7)) (fun i v H8' H8 hi p y => ?_) (fun H8 p => ?_)
    · obtain ⟨s8, hD2⟩ := p
      obtain ⟨rfl, ex⟩ := y
      have hi2 : i < (outHs o).length := by simpa using hi
      have e2 := mapAt ex hi2
      subst e2
      refine ⟨rfl, ?_⟩
      refine ⟨_, rfl, _, rfl, _, rfl, ?_⟩
      exact iteF ⟨s8, hD2⟩
    · obtain ⟨s8, hD2⟩ := p
      refine ⟨by show 0 ≤ sizeLine; decide, fun E nE => ?_⟩
      have sE := sameNew (o := .lst []) nE
      refine ⟨.list [], .list [], .lst (.of (sE _ _ hD2)) .nil, .lst (.of upd_same) .nil, rfl, rfl, _, rfl, ?_⟩
      exact iteF ⟨Same.trans s07 (Same.trans s8 sE), rfl⟩
  rintro σ' H9 ⟨s9, rfl⟩
  have hu9 := tupS s9 hu
  refine ⟨_, rfl, _, _, _, _, rfl, rfl, hu9, atI_nat (j := 0) rfl, rfl, ?_⟩
  refine ⟨_, rfl, ?_⟩
  refine notDec (fun c => q _ s9) (fun c => ?_)
  obtain ⟨m, rfl⟩ := hz (strEq.mp c)
  exact ⟨_, rfl, _, _, _, _, rfl, rfl, hu9, atI_nat (j := 2) rfl, m, rfl, q _ s9⟩

end

end LW

namespace LW
open PySem PySem.Spec PyProof.Rows L2
local macro_rules | `(tactic| walk_at "go1") => `(tactic| first
  | refine ⟨_, rfl, ?_⟩
  | refine ⟨_, _, rfl, rfl, ?_⟩
  | refine ⟨show (0 : Int) < _ from by omega, ?_⟩
  | refine ⟨show CMul _ _ from by first | exact .inl ⟨by omega, by omega⟩ | exact .inr ⟨by omega, by omega⟩, ?_⟩
  | refine ⟨show CDiv _ _ from ⟨by omega, by omega⟩, ?_⟩)
local macro_rules | `(tactic| walk_at "go") => `(tactic| repeat walk_at "go1")

section
variable {P : Program} {w : World} {K : PySem.W.Frag} {mg : Str → Option Value} {base : Heap}

theorem flSnoc {H : Hp} {s : Addr} {fs : List Int} {y : V} {n : String} (h : SqL K H s (fs.map V.int ++ [y])) (ty : TyN K H y n) (l : fs.length ≤ 900) : FlArg K H (.ref s) (some (fs.map V.int ++ [y])) :=
  ⟨s, rfl, h, fun x hx => by
    rcases List.mem_append.mp hx with hx | hx
    · obtain ⟨i, _, rfl⟩ := List.mem_map.mp hx
      exact ⟨_, .int i⟩
    · rw [List.mem_singleton.mp hx]
      exact ⟨_, ty⟩, by simp; omega⟩
theorem flNot {tops fs : List Int} {y : V} (h : isIntV y = false) : isFl tops (some (fs.map V.int ++ [y])) = false := by simp [isFl, h]
theorem flLen {tops fs : List Int} (h : fs.length ≠ tops.length) : isFl tops (some (fs.map V.int)) = false := by simp [isFl, h]
theorem But2.trans {a b : Addr} {H0 H1 H2 : Hp} (h : But2 a b H0 H1) (g : But2 a b H1 H2) : But2 a b H0 H2 := fun c o n m e => g c o n m (h c o n m e)
theorem But2.free {a b L : Addr} {H H1 : Hp} {x y : HO} (h : But2 a b H H1) (n : H1 L = none) (ha : H1 a = some x) (hb : H1 b = some y) : H L = none := by
  cases e : H L with
  | none => rfl
  | some o =>
    have n1 : L ≠ a := fun z => by rw [z, ha] at n; cases n
    have n2 : L ≠ b := fun z => by rw [z, hb] at n; cases n
    have := h L o n1 n2 e
    rw [n] at this
    cases this
def spLaw (K : PySem.W.Frag) (P0 : Addr) : Sp := fun vs H Q _ => ∃ (a : Addr) (ns : List Int), vs = [.ref a] ∧ SqL K H a (ns.map V.int) ∧ ns.length ≤ 63 ∧ LamX.Tabs [(P0, jq)] H ∧ ∀ H', Q (.bl true) H'
abbrev s_law : Stmt := topS 76
theorem sc_law : FnScope ["_law_script", "_law_tops_here", "_law_rows_here", "_law_code_here", "_law_program_here", "_law_cell", "_law_first", "_law_ahead", "_law_bad", "_law_handed", "_law_kept", "_law_other", "_law_filling_here", "_law_most", "_law_found", "_law_due", "_law_held", "_law_pair", "_law_part"] ["_law_script"] (defScope s_law) := ⟨rfl, rfl, rfl, by decide +kernel, rfl, by decide +kernel, by decide +kernel⟩

theorem ok_law {f C CB BF P0 : Addr} {fd : FuncData} {k : Nat} (F : Fun K "law" "law" s_law f fd) (B : Bl mg) (qcl : Cls K C) (c__law_program : C8.Cal P w K mg base (k + 1) "_law_program" (spProgG K) []) (c__law_at : C8.Cal P w K mg base (k + 1) "_law_at" (spAt K) []) (c__law_code : C8.Cal P w K mg base (k + 1) "_law_code" (spCode K 4) []) (c__law_filling : C8.Cal P w K mg base (k + 1) "_law_filling" (spFilling K) []) (c__law_refused : C8.Cal P w K mg base (k + 1) "_law_refused" (spRefG K C) []) (c_judged : C8.Cal P w K mg base (k + 1) "judged" (spJudged K C P0) []) (c__law_behinds_right : C8.Cal P w K mg base (k + 1) "_law_behinds_right" (spBehR K C) []) (c_run : CalX P w K mg base (k + 1) "run" (spRun K C BF)) (c__law_run : C8.Cal P w K mg base (k + 1) "_law_run" (spLRunF K) []) (c__law_same : C8.Cal P w K mg base (k + 1) "_law_same" (spSame K) []) (q_tops : CalP P w K mg base k C "tops" (spTopsP K C)) (q_Program : CalC P w K mg base k C "Program" (spInit K C CB)) :
    FnOk P w K mg base CX0 (k + 2) f fd ["_law_script"] (spLaw K P0) := by
  refine F.ok sc_law (fun vs H Q E h => ?_) (fun cdv A outer s H vs Q E hr h => ?_)
  · obtain ⟨a, ns, rfl, _⟩ := h
    rfl
  obtain ⟨a, ns, rfl, hS, h63, hTab, q⟩ := h
  refine ⟨_, (pss_cons (ps_asg (C8.pe_c c__law_program hr (Nat.le_refl _) (by rfl) (pa_cons (pv 0) (pa_cons pe_int pa_nil))) (kT2 (K := K) rfl rfl (pg_name (i := 1) sc_law.nd rfl (.inl rfl)) (pg_name (i := 2) sc_law.nd rfl (.inl rfl))))
    (pss_cons (ps_set (i := 3) sc_law.nd rfl (.inl rfl) (pe_lst pa_nil))
    (pss_cons (ps_expr (C8.pe_c c__law_code hr (Nat.le_refl _) (by rfl) (pa_cons (pv 2) (pa_cons (pe_tup pa_nil) (pa_cons (pv 3) pa_nil)))))
    (pss_cons (ps_set (i := 4) sc_law.nd rfl (.inl rfl) (pC q_Program hr (by omega) (passes_call takes0 (fun _ _ _ _ h => h)) (pa_cons (pe_callTy (kList (K := K) rfl) (by rfl) B.list (by decide +kernel) (pa_cons (pv 1) pa_nil)) (pa_cons (pv 2) pa_nil))))
    (pss_cons (ps_set (i := 5) sc_law.nd rfl (.inl rfl) (C8.pe_c c__law_at hr (Nat.le_refl _) (by rfl) (pa_cons (pv 0) (pa_cons pe_int pa_nil))))
    (pss_cons (ps_set (i := 6) sc_law.nd rfl (.inl rfl) (C8.pe_c c__law_filling hr (Nat.le_refl _) (by rfl) (pa_cons (pv 0) (pa_cons pe_int (pa_cons (pv 1) pa_nil)))))
    (pss_cons (ps_set (i := 7) sc_law.nd rfl (.inl rfl) (pe_slice (kSlL (K := K) rfl) (pv 6) po_none (po_some (pe_un un_neg pe_int))))
    (pss_cons (ps_set (i := 8) sc_law.nd rfl (.inl rfl) (pe_lst (pa_cons (pe_callTy (kTup (K := K) rfl) (by rfl) B.tuple (by decide +kernel) (pa_cons (pv 6) pa_nil)) (pa_cons (pe_slice (kSlL (K := K) rfl) (pv 6) (po_some pe_int) po_none) (pa_cons (pe_op op_cat (pv 6) (pe_lst (pa_cons pe_int pa_nil))) (pa_cons pe_non pa_nil))))))
    (pss_cons (ps_set (i := 8) sc_law.nd rfl (.inl rfl) (pe_op op_cat (pv 8) (pe_lst (pa_cons (pe_op op_cat (pv 7) (pe_lst (pa_cons pe_bl pa_nil))) (pa_cons (pe_op op_cat (pv 7) (pe_lst (pa_cons pe_non pa_nil))) (pa_cons (pe_op op_cat (pv 7) (pe_lst (pa_cons pe_str pa_nil))) pa_nil))))))
    (C8.pss_cut (ps_if (pt_not (pt_val (C8.pe_c c__law_refused hr (Nat.le_refl _) (by rfl) (pa_cons (pv 4) (pa_cons (pe_ix (kIxL (K := K) rfl) (pv 8) (pe_op op_mod (pv 5) pe_int) (fun _ _ => rfl)) pa_nil)))))
      (pss_one (ps_ret pe_bl))
      pss_nil)
    (C8.pss_cut (ps_if (pt_cmpR op_eq (pe_op op_mod (pe_op op_fdiv (pv 5) pe_int) pe_int) pe_int (nomark _))
      (pss_one (ps_expr (C8.pe_c c_judged hr (Nat.le_refl _) (by rfl) (pa_cons (pv 4) pa_nil))))
      pss_nil)
    (C8.pss_cut (ps_if (PW.pt (pw_and (pt_cmpR op_eq (pe_op op_mod (pe_op op_fdiv (pv 5) pe_int) pe_int) pe_int (nomark _)) (pw_and1 (pt_not (pt_val (C8.pe_c c__law_behinds_right hr (Nat.le_refl _) (by rfl) (pa_cons (pv 4) (pa_cons (pv 3) pa_nil))))))))
      (pss_one (ps_ret pe_bl))
      pss_nil)
    (pss_cons (ps_set (i := 9) sc_law.nd rfl (.inl rfl) (pe_lst pa_nil))
    (pss_cons (ps_set (i := 10) sc_law.nd rfl (.inl rfl) (pe_lst pa_nil))
    (pss_cons (ps_set (i := 11) sc_law.nd rfl (.inl rfl) (C8.pe_c c__law_filling hr (Nat.le_refl _) (by rfl) (pa_cons (pv 0) (pa_cons pe_int (pa_cons (pv 1) pa_nil)))))
    (pss_cons (ps_for PassesOwn.never rfl (kList_ (K := K) rfl (pe_lst (pa_cons (pv 6) (pa_cons (pv 11) (pa_cons (pe_op op_rep (pe_lst (pa_cons pe_int pa_nil)) (pe_callB (kLen (K := K) rfl) (by rfl) B.len PySem.boot_len (pa_cons (pv 1) pa_nil))) (pa_cons (pe_op op_cat (pv 7) (pe_lst (pa_cons (pe_op op_add (pe_ix (kIxL (K := K) rfl) (pv 6) (pe_un un_neg pe_int) (fun _ _ => rfl)) pe_int) pa_nil))) (pa_cons (pv 6) pa_nil))))))) (pg_name (i := 12) sc_law.nd rfl (.inl rfl))
      (pss_one (ps_for PassesOwn.never rfl (kTup_ (K := K) rfl (pe_tup (pa_cons (pe_op op_mod (pe_op op_fdiv (pv 5) pe_int) pe_int) (pa_cons pe_int pa_nil)))) (pg_name (i := 13) sc_law.nd rfl (.inl rfl))
        (pss_cons (ps_expr (pe_bm0 PySem.F.plainAttrs_list PySem.F.slot_list_clear PySem.F.type_list_clear mt_clear (pv 9)))
        (pss_cons (ps_expr (pe_bm PySem.F.plainAttrs_list PySem.F.slot_list_extend PySem.F.type_list_extend mt_extend (pv 9) (pa_cons (pv 12) pa_nil)))
        (pss_cons (ps_set (i := 14) sc_law.nd rfl (.inl rfl) (cX c_run hr (Nat.le_refl _) (by rfl) (passes_call takes0 (fun _ _ _ _ h => h)) (pa_cons (pv 4) (pa_cons (pv 9) (pa_cons (pv 13) pa_nil)))))
        (pss_cons (ps_set (i := 15) sc_law.nd rfl (.inl rfl) (C8.pe_c c__law_run hr (Nat.le_refl _) (by rfl) (pa_cons (pv 3) (pa_cons pe_int (pa_cons (pv 1) (pa_cons (pv 12) (pa_cons (pv 13) pa_nil)))))))
        (pss_cons (ps_if (PW.pt (pw_or (pt_not (pt_val (C8.pe_c c__law_same hr (Nat.le_refl _) (by rfl) (pa_cons (pv 14) (pa_cons (pv 15) pa_nil))))) (pw_or1 (pt_cmpR (kNeD (K := K) rfl hr.units) (pv 9) (pv 12) (nomark _)))))
          (pss_one (ps_ret pe_bl))
          pss_nil)
        (pss_cons (ps_set (i := 16) sc_law.nd rfl (.inl rfl) (pe_ix (kIxL (K := K) rfl) (pe_lc (own := [("_law_part", 18)]) rfl sc_law.nd (kTup_ (K := K) rfl (pe_slice (kSlT (K := K) rfl) (pv 14) (po_some pe_int) po_none)) (blkOk_by (own := [("_law_part", 18)]) (N := ["_law_script", "_law_tops_here", "_law_rows_here", "_law_code_here", "_law_program_here", "_law_cell", "_law_first", "_law_ahead", "_law_bad", "_law_handed", "_law_kept", "_law_other", "_law_filling_here", "_law_most", "_law_found", "_law_due", "_law_held", "_law_pair", "_law_part"]) (sc := defScope s_law) (by decide +kernel)) (fun _ _ _ _ _ => (pgN (i := 18) sc_law.nd rfl (.inl rfl) (.inr rfl))) (fun _ _ _ _ _ => (pts_one (pt_val (pe_callB (kIsi (K := K) rfl) (by rfl) B.isinstance (by decide +kernel) (pa_cons (pv 18) (pa_cons (pe_bltn (v := .ty "list") (by rfl) B.list (by decide +kernel) rfl) pa_nil)))))) (fun _ _ _ _ _ => (pv 18))) pe_int (fun _ _ => rfl)))
        (pss_cons (ps_expr (pe_bm PySem.F.plainAttrs_list PySem.F.slot_list_append PySem.F.type_list_append mt_append (pv 16) (pa_cons (pv 13) pa_nil)))
        (pss_one (ps_expr (pe_bm PySem.F.plainAttrs_list PySem.F.slot_list_append PySem.F.type_list_append mt_append (pv 10) (pa_cons (pe_tup (pa_cons (pv 16) (pa_cons (pe_callTy (kList (K := K) rfl) (by rfl) B.list (by decide +kernel) (pa_cons (pv 16) pa_nil)) pa_nil))) pa_nil))))))))))))))
    (pss_cons (ps_if (pt_cmpR (kNeD (K := K) rfl hr.units) (pe_lc (own := [("_law_pair", 17)]) rfl sc_law.nd (kList_ (K := K) rfl (pv 10)) (blkOk_by (own := [("_law_pair", 17)]) (N := ["_law_script", "_law_tops_here", "_law_rows_here", "_law_code_here", "_law_program_here", "_law_cell", "_law_first", "_law_ahead", "_law_bad", "_law_handed", "_law_kept", "_law_other", "_law_filling_here", "_law_most", "_law_found", "_law_due", "_law_held", "_law_pair", "_law_part"]) (sc := defScope s_law) (by decide +kernel)) (fun _ _ _ _ _ => (pgN (i := 17) sc_law.nd rfl (.inl rfl) (.inr rfl))) (fun _ _ _ _ _ => (pts_one (pt_cmpR (kNeD (K := K) rfl hr.units) (pe_ix (kIxT (K := K) rfl) (pv 17) pe_int (fun _ _ => rfl)) (pe_ix (kIxT (K := K) rfl) (pv 17) pe_int (fun _ _ => rfl)) (nomark _)))) (fun _ _ _ _ _ => (pv 17))) (pe_lst pa_nil) (nomark _))
      (pss_one (ps_ret pe_bl))
      pss_nil)
    (pss_one (ps_ret (pe_and (pe_cmpR (kEqD (K := K) rfl hr.units) (pP q_tops qcl hr (by omega) (pv 4)) (pv 1) (nomark _)) (pe_one (C8.pe_c c__law_behinds_right hr (Nat.le_refl _) (by rfl) (pa_cons (pv 4) (pa_cons (pv 3) pa_nil)))))))))))))))))))))))), ?_⟩
  have szl : (10000000 : Nat) < sizeLine := by decide
  refine ⟨_, rfl, a, ns, 8, rfl, hS, h63, by decide, by decide, fun r0 tp H1 v0 tops rows s1 hr0 ntp htp tw hd hg hc => ?_⟩
  cases hd with
  | @tup a1 xs _ hT hA =>
  obtain ⟨R, rfl, hRW, hRd⟩ := rsOf 3 rows hg
  have ecn : cnt 4 (.tup R.ds) = R.num := rs_cnt R 3 hRd
  have hN : R.num ≤ 12 := by omega
  have tw1 := tw.1
  have tw3 := tw.2.1
  have ltp : (tops.map V.int).length = tops.length := List.length_map _
  have lcl := clen_le R
  have hcl : (codeOf R).length ≤ 1000 := by
    rw [show (codeOf R).length = clen R from codeR_len ..]
    omega
  refine ⟨_, _, rfl, hr0, rfl, _, _, rfl, _, _, rfl, rfl, ?_⟩
  -- the code
  refine ⟨by show 0 ≤ sizeLine; decide, fun Cd nCd => ?_⟩
  have sC := sameNew (o := .lst []) nCd
  refine ⟨_, rfl, by show 0 ≤ sizeLine; decide, fun T nT => ?_⟩
  have sT := sameNew (o := .tup []) nT
  have s1T := Same.trans sC sT
  refine ⟨_, rfl, a1, T, Cd, xs, [], R, [], .top, [], rfl, tupS s1T hT, dinASame s1T hA, .of upd_same, sT _ _ upd_same, .nil, by omega, by decide, by simp; omega, fun cs H3 b3 hC3 hD3 => ?_⟩
  have s13 : Same H1 H3 := fun b o ho => b3 b o (fun z => by rw [z, nCd] at ho; cases ho) (s1T b o ho)
  have hC3' : CodeIn K H3 Cd R := ⟨cs, hC3, by simpa [codeOf] using hD3⟩
  have htp3 := s13 _ _ htp
  clear hC3 hD3 b3
  generalize upd (upd H1 Cd (.lst [])) T (.tup []) = Hx at *
  -- the program
  refine ⟨_, rfl, _, _, rfl, .inl (.of htp3), fun Hd nHd => ?_⟩
  have sHd := sameNew (o := .lst (tops.map V.int)) nHd
  have s1d := Same.trans s13 sHd
  refine ⟨_, rfl, fun x dx n1 n2 n3 => initUse (.of upd_same) (tupS s1d hT) (dinASame s1d hA) hg hRW hRd hN tw n1 n2 n3 fun H5 s5 hp5 => ?_⟩
  have s35 := Same.trans sHd s5
  have s05 := Same.trans s1 (Same.trans s13 s35)
  have htp5 := s35 _ _ htp3
  have hC5 := hC3'.same s35
  have hS5 := Same.seq s05 hS
  have hTab5 := hTab.ext s05
  clear n3 n2 n1 s5 sHd nHd
  -- cell, first, ahead
  refine ⟨_, rfl, a, ns, 50, rfl, hS5, h63, by decide, by decide, fun cell c0 c1 => ?_⟩
  refine ⟨_, rfl, _, rfl, a, tp, ns, tops, 51, rfl, hS5, h63, by decide, by decide, htp5, tw, fun fi fs H6 nfi s6 hfi lfi wfi => ?_⟩
  obtain ⟨fs1, f0, rfl⟩ : ∃ fs1 f0, fs = fs1 ++ [f0] := ⟨fs.dropLast, fs.getLast (by intro z; rw [z] at lfi; simp at lfi; omega), (List.dropLast_concat_getLast _).symm⟩
  refine ⟨_, rfl, _, rfl, _, rfl, fi, _, rfl, .of hfi, fun S1 nS1 => ?_⟩
  have ec1 : cutV ((fs1 ++ [f0]).map V.int) none (some (-1)) = fs1.map V.int := by rw [List.map_append]; exact cutNeg1
  rw [ec1]
  have sS1 := sameNew (o := .lst (fs1.map V.int)) nS1
  have hS1 : upd H6 S1 (.lst (fs1.map V.int)) S1 = some (.lst (fs1.map V.int)) := upd_same
  generalize upd H6 S1 (.lst (fs1.map V.int)) = H7 at *
  -- what is no filling
  have hfi7 := sS1 _ _ hfi
  refine ⟨_, rfl, _, _, rfl, .inl ⟨.of hfi7, fun T1 nT1 => ?_⟩⟩
  have sT1 := sameNew (o := .tup ((fs1 ++ [f0]).map V.int)) nT1
  have hT1 : upd H7 T1 (.tup ((fs1 ++ [f0]).map V.int)) T1 = some (.tup ((fs1 ++ [f0]).map V.int)) := upd_same
  generalize upd H7 T1 (.tup ((fs1 ++ [f0]).map V.int)) = H8 at *
  have hfi8 := sT1 _ _ hfi7
  refine ⟨_, rfl, _, rfl, fi, _, rfl, .of hfi8, fun S2 nS2 => ?_⟩
  have ec2 : cutV ((fs1 ++ [f0]).map V.int) (some 1) none = ((fs1 ++ [f0]).drop 1).map V.int := by rw [List.map_drop]; exact cutDrop 1
  rw [ec2]
  have ld1 : ((fs1 ++ [f0]).drop 1).length = tops.length - 1 := by rw [List.length_drop, lfi]
  have lf1 : fs1.length + 1 = tops.length := by rw [← lfi]; simp
  generalize (fs1 ++ [f0]).drop 1 = fd1 at *
  have sS2 := sameNew (o := .lst (fd1.map V.int)) nS2
  have hS2 : upd H8 S2 (.lst (fd1.map V.int)) S2 = some (.lst (fd1.map V.int)) := upd_same
  generalize upd H8 S2 (.lst (fd1.map V.int)) = H9 at *
  refine ⟨_, rfl, by show 1 ≤ sizeLine; decide, fun Z1 nZ1 => ?_⟩
  have sZ1 := sameNew (o := .lst [.int 0]) nZ1
  have hZ1 : upd H9 Z1 (.lst [.int 0]) Z1 = some (.lst [.int 0]) := upd_same
  generalize upd H9 Z1 (.lst [.int 0]) = H10 at *
  have hfi10 := sZ1 _ _ (sS2 _ _ hfi8)
  refine ⟨fi, Z1, _, _, rfl, rfl, hfi10, hZ1, by simp; omega, fun S3 nS3 => ?_⟩
  have sS3 := sameNew (o := .lst ((fs1 ++ [f0]).map V.int ++ [.int 0])) nS3
  have hS3 : upd H10 S3 (.lst ((fs1 ++ [f0]).map V.int ++ [.int 0])) S3 = some (.lst ((fs1 ++ [f0]).map V.int ++ [.int 0])) := upd_same
  generalize upd H10 S3 (.lst ((fs1 ++ [f0]).map V.int ++ [.int 0])) = H11 at *
  refine ⟨by show 4 ≤ sizeLine; decide, fun B1 nB1 => ?_⟩
  have sB1 := sameNew (o := .lst [.ref T1, .ref S2, .ref S3, .non]) nB1
  have hB1 : upd H11 B1 (.lst [.ref T1, .ref S2, .ref S3, .non]) B1 = some (.lst [.ref T1, .ref S2, .ref S3, .non]) := upd_same
  generalize upd H11 B1 (.lst [.ref T1, .ref S2, .ref S3, .non]) = H12 at *
  have s7c := Same.trans sT1 (Same.trans sS2 (Same.trans sZ1 (Same.trans sS3 sB1)))
  have hS1c := s7c _ _ hS1
  -- the three more
  refine ⟨_, rfl, _, rfl, by show 1 ≤ sizeLine; decide, fun Z2 nZ2 => ?_⟩
  have sZ2 := sameNew (o := .lst [.bl true]) nZ2
  have hZ2 : upd H12 Z2 (.lst [.bl true]) Z2 = some (.lst [.bl true]) := upd_same
  generalize upd H12 Z2 (.lst [.bl true]) = H13 at *
  refine ⟨S1, Z2, _, _, rfl, rfl, sZ2 _ _ hS1c, hZ2, by simp; omega, fun S4 nS4 => ?_⟩
  have sS4 := sameNew (o := .lst (fs1.map V.int ++ [.bl true])) nS4
  have hS4 : upd H13 S4 (.lst (fs1.map V.int ++ [.bl true])) S4 = some (.lst (fs1.map V.int ++ [.bl true])) := upd_same
  generalize upd H13 S4 (.lst (fs1.map V.int ++ [.bl true])) = H14 at *
  have hS1d := sS4 _ _ (sZ2 _ _ hS1c)
  refine ⟨_, rfl, by show 1 ≤ sizeLine; decide, fun Z3 nZ3 => ?_⟩
  have sZ3 := sameNew (o := .lst [.non]) nZ3
  have hZ3 : upd H14 Z3 (.lst [.non]) Z3 = some (.lst [.non]) := upd_same
  generalize upd H14 Z3 (.lst [.non]) = H15 at *
  refine ⟨S1, Z3, _, _, rfl, rfl, sZ3 _ _ hS1d, hZ3, by simp; omega, fun S5 nS5 => ?_⟩
  have sS5 := sameNew (o := .lst (fs1.map V.int ++ [.non])) nS5
  have hS5' : upd H15 S5 (.lst (fs1.map V.int ++ [.non])) S5 = some (.lst (fs1.map V.int ++ [.non])) := upd_same
  generalize upd H15 S5 (.lst (fs1.map V.int ++ [.non])) = H16 at *
  have hS1e := sS5 _ _ (sZ3 _ _ hS1d)
  refine ⟨_, rfl, by show 1 ≤ sizeLine; decide, fun Z4 nZ4 => ?_⟩
  have sZ4 := sameNew (o := .lst [.str "0"]) nZ4
  have hZ4 : upd H16 Z4 (.lst [.str "0"]) Z4 = some (.lst [.str "0"]) := upd_same
  generalize upd H16 Z4 (.lst [.str "0"]) = H17 at *
  refine ⟨S1, Z4, _, _, rfl, rfl, sZ4 _ _ hS1e, hZ4, by simp; omega, fun S6 nS6 => ?_⟩
  have sS6 := sameNew (o := .lst (fs1.map V.int ++ [.str "0"])) nS6
  have hS6 : upd H17 S6 (.lst (fs1.map V.int ++ [.str "0"])) S6 = some (.lst (fs1.map V.int ++ [.str "0"])) := upd_same
  generalize upd H17 S6 (.lst (fs1.map V.int ++ [.str "0"])) = H18 at *
  refine ⟨by show 3 ≤ sizeLine; decide, fun B2 nB2 => ?_⟩
  have sB2 := sameNew (o := .lst [.ref S4, .ref S5, .ref S6]) nB2
  have hB2 : upd H18 B2 (.lst [.ref S4, .ref S5, .ref S6]) B2 = some (.lst [.ref S4, .ref S5, .ref S6]) := upd_same
  generalize upd H18 B2 (.lst [.ref S4, .ref S5, .ref S6]) = H19 at *
  have scj := Same.trans sZ2 (Same.trans sS4 (Same.trans sZ3 (Same.trans sS5 (Same.trans sZ4 (Same.trans sS6 sB2)))))
  refine ⟨B1, B2, _, _, rfl, rfl, scj _ _ hB1, hB2, by show 7 ≤ sizeLine; decide, fun Bd nBd => ?_⟩
  rw [show [V.ref T1, .ref S2, .ref S3, .non] ++ [V.ref S4, .ref S5, .ref S6] = [V.ref T1, .ref S2, .ref S3, .non, .ref S4, .ref S5, .ref S6] from rfl]
  have sBd := sameNew (o := .lst [.ref T1, .ref S2, .ref S3, .non, .ref S4, .ref S5, .ref S6]) nBd
  have hBd : upd H19 Bd (.lst [.ref T1, .ref S2, .ref S3, .non, .ref S4, .ref S5, .ref S6]) Bd = some (.lst [.ref T1, .ref S2, .ref S3, .non, .ref S4, .ref S5, .ref S6]) := upd_same
  generalize upd H19 Bd (.lst [.ref T1, .ref S2, .ref S3, .non, .ref S4, .ref S5, .ref S6]) = H20 at *
  have sck := Same.trans scj sBd
  have s5k := Same.trans s6 (Same.trans sS1 (Same.trans s7c sck))
  obtain ⟨bv, bx, ebv, hbF, hbN⟩ : ∃ (bv : V) (bx : Option (List V)), atI [V.ref T1, .ref S2, .ref S3, .non, .ref S4, .ref S5, .ref S6] (cell % 7) = some bv ∧ FlArg K H20 bv bx ∧ isFl tops bx = false := by
    have k6 := Same.trans sB2 sBd
    have k5 := Same.trans sZ4 (Same.trans sS6 k6)
    have k4 := Same.trans sZ3 (Same.trans sS5 k5)
    have k3 := Same.trans sB1 sck
    have k2 := Same.trans sZ1 (Same.trans sS3 k3)
    have k1 := Same.trans sS2 k2
    rcases (show cell % 7 = 0 ∨ cell % 7 = 1 ∨ cell % 7 = 2 ∨ cell % 7 = 3 ∨ cell % 7 = 4 ∨ cell % 7 = 5 ∨ cell % 7 = 6 by omega) with e | e | e | e | e | e | e <;> rw [e]
    · exact ⟨_, none, rfl, ⟨"tuple", .tup (.of (k1 _ _ hT1)), by decide⟩, rfl⟩
    · exact ⟨_, _, rfl, FlArg.ints (.of (k2 _ _ hS2)) (by omega), flLen (by omega)⟩
    · exact ⟨_, some (((fs1 ++ [f0]) ++ [0]).map V.int), rfl, FlArg.ints (.of (by rw [List.map_append]; exact k3 _ _ hS3)) (by simp; omega), flLen (by simp; omega)⟩
    · exact ⟨_, none, rfl, ⟨"NoneType", .non, by decide⟩, rfl⟩
    · exact ⟨_, _, rfl, flSnoc (.of (k4 _ _ hS4)) (.bl _) (by omega), flNot rfl⟩
    · exact ⟨_, _, rfl, flSnoc (.of (k5 _ _ hS5')) .non (by omega), flNot rfl⟩
    · exact ⟨_, _, rfl, flSnoc (.of (k6 _ _ hS6)) (.str _) (by omega), flNot rfl⟩
  have hp20 := hp5.same s5k
  have hC20 := hC5.same s5k
  have htp20 := s5k _ _ htp5
  have hS20 := Same.seq s5k hS5
  have hTab20 := hTab5.ext s5k
  have hfi20 := (Same.trans sS1 (Same.trans s7c sck)) _ _ hfi
  have hS1k := (Same.trans s7c sck) _ _ hS1
  clear hS5' hS6 hS4 hS3 hS2 hT1 hZ1 hZ2 hZ3 hZ4 hB1 hB2 sS2 sZ1 sS3 sB1 sZ2 sS4 sZ3 sS5 sZ4 sS6 sB2 sBd nS2 nZ1 nS3 nB1 nZ2 nS4 nZ3 nS5 nZ4 nS6 nB2 nBd hfi7 hfi8 hfi10 hS1c hS1d hS1e s7c scj sck sT1 nT1
  clear hS hTab hS5 hTab5 hp5 hC5 htp5
  refine ⟨fun σ' H' => Same H20 H' ∧ σ' = [some (.ref a), some (.ref tp), some (.ref a1), some (.ref Cd), some (.ref x), some (.int cell), some (.ref fi), some (.ref S1), some (.ref Bd), none, none, none, none, none, none, none, none, none, none], ?_, ?_⟩
  · refine ⟨_, rfl, _, rfl, _, rfl, _, _, rfl, rfl, (show (0 : Int) < 7 by decide), _, _, _, _, rfl, rfl, .of hBd, ebv, x, bv, tops, R, bx, rfl, hp20, hbF, hbN, fun H' s' => ⟨_, rfl, ?_⟩⟩
    exact iteF ⟨s', rfl⟩
  rintro σ' H21 ⟨s21, rfl⟩
  have hp21 := hp20.same s21
  have hTab21 := hTab20.ext s21
  -- a verdict ahead
  refine ⟨fun σ' H' => LamX.ExtN H21 H' ∧ σ' = [some (.ref a), some (.ref tp), some (.ref a1), some (.ref Cd), some (.ref x), some (.int cell), some (.ref fi), some (.ref S1), some (.ref Bd), none, none, none, none, none, none, none, none, none, none], ?_, ?_⟩
  · refine ⟨_, rfl, _, _, rfl, rfl, ⟨(show (0 : Int) < 427 by decide), (show (427 : Int) < 1073741824 by decide)⟩, _, _, rfl, rfl, (show (0 : Int) < 2 by decide), rfl, _, rfl, ?_⟩
    refine yesDec (fun _ => ?_) (fun _ => ⟨fun _ _ h _ => h, rfl⟩)
    exact ⟨_, rfl, x, tops, R, rfl, hp21, hTab21, fun r1 H7 vd x57 T7 hVN hR => ⟨x57, rfl⟩⟩
  rintro σ' H22 ⟨x22, rfl⟩
  have hp22 := hp21.ext x22
  have htp22 := extLst x22 (s21 _ _ htp20)
  have hC22 : CodeIn K H22 Cd R := by
    obtain ⟨us, h1, h2⟩ := hC20.same s21
    exact ⟨us, extLst x22 h1, dinATS (tsExt x22) (desPure _) h2⟩
  have hS22 := seqExt x22 (Same.seq s21 hS20)
  have hfi22 := extLst x22 (s21 _ _ hfi20)
  have hS1m := extLst x22 (s21 _ _ hS1k)
  clear hTab21 hTab20 hp21 hp20 hC20 htp20 hS20 hfi20 hS1k
  -- what is behind the rows, ahead
  refine ⟨fun σ' H' => Same H22 H' ∧ σ' = [some (.ref a), some (.ref tp), some (.ref a1), some (.ref Cd), some (.ref x), some (.int cell), some (.ref fi), some (.ref S1), some (.ref Bd), none, none, none, none, none, none, none, none, none, none], ?_, ?_⟩
  · refine ⟨_, rfl, _, _, rfl, rfl, ⟨(show (0 : Int) < 854 by decide), (show (854 : Int) < 1073741824 by decide)⟩, _, _, rfl, rfl, (show (0 : Int) < 2 by decide), rfl, _, rfl, ?_⟩
    refine yesDec (fun _ => ?_) (fun _ => ⟨Same.refl _, rfl⟩)
    refine ⟨_, rfl, _, rfl, x, Cd, tops, R, rfl, hp22, hC22, hcl, fun H' s' => ⟨_, rfl, ?_⟩⟩
    exact iteF ⟨s', rfl⟩
  rintro σ' H23 ⟨s23, rfl⟩
  have hp23 := hp22.same s23
  have hC23 := hC22.same s23
  have htp23 := s23 _ _ htp22
  have hS23 := Same.seq s23 hS22
  have hfi23 := s23 _ _ hfi22
  have hS1n := s23 _ _ hS1m
  clear hp22 hC22 htp22 hS22 hfi22 hS1m x22 s21 s23
  -- handed, kept
  refine ⟨by show 0 ≤ sizeLine; decide, fun hd nhd => ⟨by show 0 ≤ sizeLine; decide, fun kp nkp' => ?_⟩⟩
  have shd := sameNew (o := .lst []) nhd
  have hhd : upd H23 hd (.lst []) hd = some (.lst []) := upd_same
  generalize upd H23 hd (.lst []) = H24 at *
  have nhk : hd ≠ kp := fun e => by rw [e] at hhd; rw [nkp'] at hhd; cases hhd
  have nkp : H23 kp = none := Same.free shd nkp'
  have skp := sameNew (o := .lst []) nkp'
  have hkp : upd H24 kp (.lst []) kp = some (.lst []) := upd_same
  have hhd5 := skp _ _ hhd
  generalize upd H24 kp (.lst []) = H25 at *
  have s35' := Same.trans shd skp
  -- the other filling
  refine ⟨_, rfl, _, rfl, a, tp, ns, tops, 55, rfl, Same.seq s35' hS23, h63, by decide, by decide, s35' _ _ htp23, tw, fun ot os H26 nOt s26 hot lot wot => ?_⟩
  have s36 := Same.trans s35' s26
  refine ⟨_, rfl, _, rfl, by show 1 ≤ sizeLine; decide, fun Z nZ => ?_⟩
  have sZ := sameNew (o := .lst [.int 0]) nZ
  have hZ : upd H26 Z (.lst [.int 0]) Z = some (.lst [.int 0]) := upd_same
  generalize upd H26 Z (.lst [.int 0]) = H27 at *
  have s37 := Same.trans s36 sZ
  refine ⟨_, rfl, _, _, rfl, .inl (.of (s37 _ _ htp23)), Z, _, _, rfl, rfl, hZ, by omega, by omega, by simp; omega, fun W nW => ?_⟩
  have efi : (List.replicate (((tops.map V.int).length : Int)).toNat [V.int 0]).flatten = (List.replicate tops.length (0 : Int)).map V.int := by
    rw [show (((tops.map V.int).length : Int)).toNat = tops.length by omega]
    generalize tops.length = n
    induction n with
    | zero => rfl
    | succ n ih => rw [List.replicate_succ, List.flatten_cons, ih, List.replicate_succ]; rfl
  rw [efi]
  have sW := sameNew (o := .lst ((List.replicate tops.length (0 : Int)).map V.int)) nW
  have hW : upd H27 W (.lst ((List.replicate tops.length (0 : Int)).map V.int)) W = some (.lst ((List.replicate tops.length (0 : Int)).map V.int)) := upd_same
  generalize upd H27 W (.lst ((List.replicate tops.length (0 : Int)).map V.int)) = H28 at *
  have s38 := Same.trans s37 sW
  have hfi28 := s38 _ _ hfi23
  have atL : atI ((fs1 ++ [f0]).map V.int) (-1) = some (.int f0) := by rw [List.map_append]; exact atNeg
  refine ⟨_, rfl, _, rfl, _, rfl, _, _, _, _, rfl, rfl, .of hfi28, atL, _, _, rfl, rfl, by show 1 ≤ sizeLine; decide, fun Z2 nZ2 => ?_⟩
  have sZ2 := sameNew (o := .lst [.int (f0 + 1)]) nZ2
  have hZ2 : upd H28 Z2 (.lst [.int (f0 + 1)]) Z2 = some (.lst [.int (f0 + 1)]) := upd_same
  generalize upd H28 Z2 (.lst [.int (f0 + 1)]) = H29 at *
  have s39 := Same.trans s38 sZ2
  refine ⟨S1, Z2, _, _, rfl, rfl, s39 _ _ hS1n, hZ2, by simp; omega, fun W2 nW2 => ?_⟩
  have sW2 := sameNew (o := .lst (fs1.map V.int ++ [.int (f0 + 1)])) nW2
  have hW2 : upd H29 W2 (.lst (fs1.map V.int ++ [.int (f0 + 1)])) W2 = some (.lst ((fs1 ++ [f0 + 1]).map V.int)) := by rw [upd_same, List.map_append]; rfl
  generalize upd H29 W2 (.lst (fs1.map V.int ++ [.int (f0 + 1)])) = H30 at *
  refine ⟨_, rfl, by show 5 ≤ sizeLine; decide, fun FL nFL => ?_⟩
  have sFL := sameNew (o := .lst [.ref fi, .ref ot, .ref W, .ref W2, .ref fi]) nFL
  have hFL : upd H30 FL (.lst [.ref fi, .ref ot, .ref W, .ref W2, .ref fi]) FL = some (.lst [.ref fi, .ref ot, .ref W, .ref W2, .ref fi]) := upd_same
  generalize upd H30 FL (.lst [.ref fi, .ref ot, .ref W, .ref W2, .ref fi]) = Hb at *
  have s9b := Same.trans sW2 sFL
  have s8b := Same.trans sZ2 s9b
  have s5b := Same.trans s26 (Same.trans sZ (Same.trans sW s8b))
  have s3b := Same.trans s35' s5b
  have bhd := s5b _ _ hhd5
  have bkp := s5b _ _ hkp
  have nnew : ∀ {L : Addr} {H' : Hp}, Same H25 H' → H' L = none → L ≠ hd ∧ L ≠ kp := fun {L H'} s n => ⟨fun z => (by rw [z, s _ _ hhd5] at n; cases n), fun z => (by rw [z, s _ _ hkp] at n; cases n)⟩
  have nold : ∀ {L : Addr} {o : HO}, H23 L = some o → L ≠ hd ∧ L ≠ kp := fun {L o} h => ⟨fun z => (by rw [z, nhd] at h; cases h), fun z => (by rw [z, nkp] at h; cases h)⟩
  have same23 : ∀ {H' : Hp}, But2 hd kp Hb H' → Same H23 H' := fun {H'} b c o h => b c o (nold h).1 (nold h).2 (s3b _ _ h)
  have t6 := Same.trans s26 (Same.refl _)
  have t7 := Same.trans s26 sZ
  have t8 := Same.trans t7 sW
  have t9 := Same.trans t8 sZ2
  have t10 := Same.trans t9 sW2
  have nFLk := nnew t10 nFL
  have wf0 : ∀ z ∈ fs1 ++ [f0 + 1], Wd 96 z := fun z hz => by
    rcases List.mem_append.mp hz with hz | hz
    · exact (wfi z (List.mem_append_left _ hz)).mono (by decide)
    · rw [List.mem_singleton.mp hz]
      exact Wd.add (wfi f0 (List.mem_append_right _ (List.mem_singleton.mpr rfl))) (Wd.mono (n := 1) (show (1 : Int).natAbs < 2 ^ 1 by decide) (by decide))
  have fills : ∀ v ∈ [V.ref fi, .ref ot, .ref W, .ref W2, .ref fi], ∃ (fl : Addr) (gs : List Int), v = .ref fl ∧ fl ≠ hd ∧ fl ≠ kp ∧ Hb fl = some (.lst (gs.map V.int)) ∧ gs.length = tops.length ∧ ∀ z ∈ gs, Wd 96 z := by
    have c1 : ∃ (fl : Addr) (gs : List Int), V.ref fi = .ref fl ∧ fl ≠ hd ∧ fl ≠ kp ∧ Hb fl = some (.lst (gs.map V.int)) ∧ gs.length = tops.length ∧ ∀ z ∈ gs, Wd 96 z := ⟨fi, _, rfl, (nold hfi23).1, (nold hfi23).2, s3b _ _ hfi23, lfi, fun z hz => (wfi z hz).mono (by decide)⟩
    intro v hv
    simp only [List.mem_cons, List.not_mem_nil, or_false] at hv
    rcases hv with rfl | rfl | rfl | rfl | rfl
    · exact c1
    · exact ⟨ot, os, rfl, (nnew (Same.refl _) nOt).1, (nnew (Same.refl _) nOt).2, (Same.trans sZ (Same.trans sW s8b)) _ _ hot, lot, fun z hz => (wot z hz).mono (by decide)⟩
    · exact ⟨W, _, rfl, (nnew t7 nW).1, (nnew t7 nW).2, s8b _ _ hW, by simp, fun z hz => by rw [(List.mem_replicate.mp hz).2]; show (0 : Int).natAbs < 2 ^ 96; exact Nat.two_pow_pos _⟩
    · exact ⟨W2, _, rfl, (nnew t9 nW2).1, (nnew t9 nW2).2, sFL _ _ hW2, by simp; omega, wf0⟩
    · exact c1
  clear hfi28 hZ hZ2 hW hW2 hot t6 t7 t8 t9 t10 sZ sW sZ2 sW2 sFL s9b s8b s26 s36 s37 s38 s39 nZ nW nZ2 nW2 nFL nOt hfi23 hS1n hhd hhd5 hkp s35' shd skp wf0
  refine ⟨FL, rfl, ⟨_, .of hFL⟩, ?_⟩
  refine for_it (walk_list (xs := [V.ref fi, .ref ot, .ref W, .ref W2, .ref fi])) (fun ip σ H' => But2 hd kp Hb H' ∧ ∃ (hvs kvs : List V) (y12 y13 y14 y15 y16 : Option V), σ = [some (.ref a), some (.ref tp), some (.ref a1), some (.ref Cd), some (.ref x), some (.int cell), some (.ref fi), some (.ref S1), some (.ref Bd), some (.ref hd), some (.ref kp), some (.ref ot), y12, y13, y14, y15, y16, none, none] ∧
      H' hd = some (.lst hvs) ∧ H' kp = some (.lst kvs) ∧ kvs.length ≤ 2 * ip ∧ (∀ v ∈ kvs, PairI K hd kp H' v))
    ⟨But2.refl _ _ _, [], [], none, none, none, none, none, rfl, bhd, bkp, Nat.le_refl _, fun v hv => by cases hv⟩ (fun ip σ H' _ p => .of (p.1 _ _ nFLk.1 nFLk.2 hFL)) (fun ip xv σ Ha' Ha hip p y => ?_) (fun σ H' p => ?_)
  · obtain ⟨b0, hvs, kvs, y12, y13, y14, y15, y16, rfl, ahd, akp, lk, hpr⟩ := p
    obtain ⟨rfl, exv⟩ := y
    obtain ⟨fl, gs, rfl, nflh, nflk, hfl, lgs, wgs⟩ := fills _ (List.mem_of_getElem? exv)
    refine ⟨_, rfl, _, _, rfl, rfl, ⟨(show (0 : Int) < 7 by decide), (show (7 : Int) < 1073741824 by decide)⟩, _, _, rfl, rfl, (show (0 : Int) < 61 by decide), by show 2 ≤ sizeLine; decide, fun TT nTT => ⟨TT, rfl, ⟨_, .of upd_same⟩, ?_⟩⟩
    have sTT := sameNew (o := .tup [.int (cell / 7 % 61), .int 60]) nTT
    have hTT : upd Ha TT (.tup [.int (cell / 7 % 61), .int 60]) TT = some (.tup [.int (cell / 7 % 61), .int 60]) := upd_same
    have nTh : TT ≠ hd := fun e => by rw [e, ahd] at nTT; cases nTT
    have nTk : TT ≠ kp := fun e => by rw [e, akp] at nTT; cases nTT
    have ahd1 := sTT _ _ ahd
    have akp1 := sTT _ _ akp
    have b1 := b0.same sTT
    have hpr1 : ∀ v ∈ kvs, PairI K hd kp (upd Ha TT (.tup [.int (cell / 7 % 61), .int 60])) v := fun v hv => (hpr v hv).but ((But2.refl hd kp Ha).same sTT) ahd akp
    clear hpr ahd akp b0
    generalize upd Ha TT (.tup [.int (cell / 7 % 61), .int 60]) = Hc at *
    refine for_it walk_tup (fun kk σ H' => But2 hd kp Hb H' ∧ But2 hd kp Hc H' ∧ ∃ (hvs kvs : List V) (y13 y14 y15 y16 : Option V), σ = [some (.ref a), some (.ref tp), some (.ref a1), some (.ref Cd), some (.ref x), some (.int cell), some (.ref fi), some (.ref S1), some (.ref Bd), some (.ref hd), some (.ref kp), some (.ref ot), some (.ref fl), y13, y14, y15, y16, none, none] ∧
        H' hd = some (.lst hvs) ∧ H' kp = some (.lst kvs) ∧ kvs.length ≤ 2 * ip + kk ∧ (∀ v ∈ kvs, PairI K hd kp H' v))
      ⟨b1, But2.refl _ _ _, hvs, kvs, y13, y14, y15, y16, rfl, ahd1, akp1, by omega, hpr1⟩ (fun kk σ H' _ p => .of (p.2.1 _ _ nTh nTk hTT)) (fun kk xv σ Hd' Hd hkk p y => ?_) (fun σ H' p => ?_)
    rotate_left
    · obtain ⟨b2, _, hvs, kvs, y13, y14, y15, y16, rfl, ahd, akp, lk, hpr⟩ := p
      exact ⟨b2, hvs, kvs, _, _, _, _, _, rfl, ahd, akp, by have : [V.int (cell / 7 % 61), .int 60].length = 2 := rfl; omega, hpr⟩
    clear hpr1 ahd1 akp1 b1 lk hvs kvs y13 y14 y15 y16 y12
    obtain ⟨b0, bc, hvs, kvs, y13, y14, y15, y16, rfl, ahd, akp, lk, hpr⟩ := p
    obtain ⟨rfl, exm⟩ := y
    have hip5 : ip < 5 := hip
    have hkk2 : kk < 2 := hkk
    obtain ⟨most, rfl, hmost⟩ : ∃ most : Nat, xv = .int (most : Nat) ∧ most ≤ 60 := by
      match kk, hkk, exm with
      | 0, _, exm =>
        cases exm
        exact ⟨(cell / 7 % 61).toNat, by rw [Int.toNat_of_nonneg (by omega)], by omega⟩
      | 1, _, exm =>
        cases exm
        exact ⟨60, rfl, Nat.le_refl _⟩
    have s23d := same23 b0
    have hfld := b0 _ _ nflh nflk hfl
    -- handed
    refine ⟨_, rfl, .inl ⟨rfl, _, .of ahd⟩, hd, hvs, rfl, rfl, ahd, ?_⟩
    have hgs' : upd Hd hd (.lst []) fl = some (.lst (gs.map V.int)) := by rw [upd_ne nflh]; exact hfld
    refine ⟨_, rfl, .inl ⟨rfl, _, .of upd_same⟩, _, rfl, hd, fl, _, _, rfl, rfl, upd_same, hgs', by simp; omega, ?_⟩
    have b4 : But2 hd kp Hd (upd (upd Hd hd (.lst [])) hd (.lst ([] ++ gs.map V.int))) := (But2.refl hd kp Hd).mutA.mutA
    have hhd4 : upd (upd Hd hd (.lst [])) hd (.lst ([] ++ gs.map V.int)) hd = some (.lst (gs.map V.int)) := upd_same
    have hkp4 : upd (upd Hd hd (.lst [])) hd (.lst ([] ++ gs.map V.int)) kp = some (.lst kvs) := by rw [upd_ne (Ne.symm nhk), upd_ne (Ne.symm nhk)]; exact akp
    generalize upd (upd Hd hd (.lst [])) hd (.lst ([] ++ gs.map V.int)) = He at *
    have s23e := same23 (b0.trans b4)
    have hfle := b4 _ _ nflh nflk hfld
    -- what is told
    have hW100 : ∀ z ∈ gs, Wd 100 z := fun z hz => (wgs z hz).mono (by decide)
    have hisf : isFl tops (some (gs.map V.int)) = true := by
      show (decide ((gs.map V.int).length = tops.length) && (gs.map V.int).all isIntV) = true
      rw [intsAll, List.length_map, lgs]
      simp
    refine ⟨_, rfl, _, rfl, _, rfl, x, .ref hd, tops, R, some (gs.map V.int), most, rfl, hp23.same s23e, FlArg.ints (.of hhd4) (by omega), by omega, (fun c => by rw [hisf] at c; cases c), fun _ => ⟨hd, gs, rfl, .of hhd4, lgs, hW100, fun fu fx H5 nfx s5 hfu => ?_⟩⟩
    have s23f := Same.trans s23e s5
    refine ⟨_, rfl, _, rfl, _, rfl, _, rfl, Cd, tp, fl, R, tops, gs, 0, most, [], 0, R, .top, rfl, hC23.same s23f, hcl, hRW, hN, hRd, tw, .top, runW_start hN lgs hW100, s23f _ _ htp23, .of (s5 _ _ hfle), fun du dx H6 ndx s6 hdu => ?_⟩
    have s56 := Same.trans s5 s6
    have hfu6 := hfu.same s6
    have hlo : (outHs (runF tops (norm .top R [] 0) gs 0 most)).length ≤ 1000 := by
      rw [runF_len]
      omega
    generalize runF tops (norm .top R [] 0) gs 0 most = oo at *
    have lyG := lyLst (lyInts gs)
    refine ⟨_, rfl, _, rfl, fu, du, fx, dx, oo, rfl, hfu6, hdu, hlo, fun H7 s7 => ⟨_, rfl, ?_⟩⟩
    have s57 := Same.trans s56 s7
    have hhd7 := s57 _ _ hhd4
    have hkp7 := s57 _ _ hkp4
    refine iteF ⟨_, rfl, _, rfl, .list (dI gs), .list (dI gs), .lst (.of hhd7) (dpInts gs), .lst (.of (s57 _ _ hfle)) (dpInts gs), lyG.shaped (by decide), lyG.shaped (by decide), _, rfl, ?_⟩
    rw [lyG.same]
    refine iteF ?_
    have hfu7 := hfu6.same s7
    obtain ⟨z0, x1, x2, k0, hu, hh, hk, hx, _⟩ := outTwo hfu7
    have nxh : fx ≠ hd := fun e => by rw [e, hhd4] at nfx; cases nfx
    have nxk : fx ≠ kp := fun e => by rw [e, hkp4] at nfx; cases nfx
    have nxl : fx ≠ fl := fun e => by rw [e, hfle] at nfx; cases nfx
    have nxd : Hd fx = none := b4.free nfx hhd4 hkp4
    refine ⟨_, rfl, _, rfl, slUseN hu fun p2 G1 g1 hp2 => ?_⟩
    rw [show cutV [.str z0, x1, x2] (some 1) none = [x1, x2] from cutDrop 1] at hp2
    refine ⟨p2, rfl, ⟨_, hp2⟩, fun D nD => ?_⟩
    refine lc_it walk_tup (fun i H' => Same G1 H' ∧ H' D = some (.lst (if i < k0 then [] else [.ref fx]))) ⟨sameNew nD, by rw [upd_same, if_pos (by omega)]⟩ (fun i H' _ p => tupS p.1 hp2) (fun i v H8' H8 hi p y => ?_) (fun H8 p => ?_)
    · obtain ⟨s8, hD⟩ := p
      obtain ⟨rfl, ex⟩ := y
      refine ⟨rfl, ?_⟩
      obtain ⟨hx1, hx2⟩ := hx i v ex
      have hh8 := (Same.trans g1 s8) _ _ hh
      by_cases ck : i + 1 = k0
      · rw [if_pos (by omega)] at hD
        rw [hx1 ck]
        refine ⟨_, rfl, _, _, _, _, true, rfl, .ty _, tyLst (.of hh8), kit_ty (by decide +kernel), _, rfl, ?_⟩
        refine iteT ⟨_, rfl, _, hD, by show 0 < sizeLine; decide, sameMut s8 nD, ?_⟩
        rw [upd_same, if_neg (by omega)]
        rfl
      · obtain ⟨ty, ht, hkt⟩ := noList (K := K) (H := H8) ((hx2 ck).imp (fun ⟨pl, ps, e, h⟩ => ⟨pl, ps, e, tupS (Same.trans g1 s8) h⟩) id)
        refine ⟨_, rfl, _, _, _, _, false, rfl, .ty _, ht, kit_ty hkt, _, rfl, ?_⟩
        refine iteF ⟨s8, ?_⟩
        rw [hD]
        by_cases c2 : i < k0
        · rw [if_pos c2, if_pos (by omega)]
        · rw [if_neg c2, if_neg (by omega)]
    obtain ⟨s8, hD⟩ := p
    rw [if_neg (by show ¬ 2 < k0; omega)] at hD
    refine ⟨_, _, _, _, rfl, rfl, .of hD, atI_nat (j := 0) rfl, ?_⟩
    have s78 := Same.trans g1 s8
    have se8 := Same.trans s57 s78
    have hfx8 := s78 _ _ hh
    refine ⟨_, rfl, .inl ⟨rfl, _, .of hfx8⟩, _, rfl, fx, _, _, rfl, rfl, hfx8, by rw [List.length_map]; omega, ?_⟩
    have b8 : But2 hd kp Hd (upd H8 fx (.lst ((outHs oo).map V.int ++ [.int (most : Nat)]))) := (b4.same se8).new nxd
    have hhd8 : upd H8 fx (.lst ((outHs oo).map V.int ++ [.int (most : Nat)])) hd = some (.lst (gs.map V.int)) := by rw [upd_ne (Ne.symm nxh)]; exact se8 _ _ hhd4
    have hkp8 : upd H8 fx (.lst ((outHs oo).map V.int ++ [.int (most : Nat)])) kp = some (.lst kvs) := by rw [upd_ne (Ne.symm nxk)]; exact se8 _ _ hkp4
    have hfx9 : upd H8 fx (.lst ((outHs oo).map V.int ++ [.int (most : Nat)])) fx = some (.lst ((outHs oo).map V.int ++ [.int (most : Nat)])) := upd_same
    generalize upd H8 fx (.lst ((outHs oo).map V.int ++ [.int (most : Nat)])) = H9' at *
    refine ⟨_, rfl, .inl ⟨rfl, _, .of hkp8⟩, _, rfl, _, rfl, _, _, rfl, .inl (.of hfx9), fun L2 nL2 => ⟨by show 2 ≤ sizeLine; decide, fun U nU => ?_⟩⟩
    have sL2 := sameNew (o := .lst ((outHs oo).map V.int ++ [.int (most : Nat)])) nL2
    have hL2 : upd H9' L2 (.lst ((outHs oo).map V.int ++ [.int (most : Nat)])) L2 = some (.lst ((outHs oo).map V.int ++ [.int (most : Nat)])) := upd_same
    have n2h : L2 ≠ hd := fun e => by rw [e, hhd8] at nL2; cases nL2
    have n2k : L2 ≠ kp := fun e => by rw [e, hkp8] at nL2; cases nL2
    generalize upd H9' L2 (.lst ((outHs oo).map V.int ++ [.int (most : Nat)])) = H10' at *
    have sU := sameNew (o := .tup [.ref fx, .ref L2]) nU
    have hU : upd H10' U (.tup [.ref fx, .ref L2]) U = some (.tup [.ref fx, .ref L2]) := upd_same
    have nUh : U ≠ hd := fun e => by rw [e, sL2 _ _ hhd8] at nU; cases nU
    have nUk : U ≠ kp := fun e => by rw [e, sL2 _ _ hkp8] at nU; cases nU
    have hL2' := sU _ _ hL2
    generalize upd H10' U (.tup [.ref fx, .ref L2]) = H11' at *
    have s9T := Same.trans sL2 sU
    have hkp11 := s9T _ _ hkp8
    have bdT := b8.same s9T
    refine ⟨kp, kvs, _, rfl, rfl, hkp11, by omega, (b0.trans bdT).mutB, (bc.trans bdT).mutB, gs.map V.int, kvs ++ [.ref U], _, _, _, _, rfl, by rw [upd_ne nhk]; exact s9T _ _ hhd8, upd_same, by simp; omega, fun v hv => ?_⟩
    rcases List.mem_append.mp hv with hv | hv
    · exact (hpr v hv).but bdT.mutB ahd akp
    · rw [List.mem_singleton.mp hv]
      have e : (outHs oo).map V.int ++ [V.int (most : Nat)] = (outHs oo ++ [(most : Int)]).map V.int := by simp
      refine ⟨U, fx, L2, outHs oo ++ [(most : Int)], rfl, tsTup (tsLst hkp11) (.of hU), nUh, nUk, nxh, nxk, n2h, n2k, ?_, ?_⟩
      · rw [upd_ne nxk, ← e]; exact s9T _ _ hfx9
      · rw [upd_ne n2k, ← e]; exact hL2'
  · obtain ⟨b0, hvs, kvs, y12, y13, y14, y15, y16, rfl, ahd, akp, lk, hpr⟩ := p
    have s23e := same23 b0
    refine ⟨_, rfl, kp, rfl, ⟨_, .of akp⟩, fun D2 nD2 => ?_⟩
    refine lc_it (walk_list (xs := kvs)) (fun _ H2 => Same H' H2 ∧ H2 D2 = some (.lst [])) ⟨sameNew nD2, upd_same⟩ (fun i H2 _ p => .of (p.1 _ _ akp)) (fun i v H2' H2 hi p y => ?_) (fun H2 p => ?_)
    · obtain ⟨s2, hD⟩ := p
      obtain ⟨rfl, ex⟩ := y
      obtain ⟨t, l1, l2, ms, rfl, ht, _, _, _, _, _, _, h1, h2⟩ := hpr _ (List.mem_of_getElem? ex)
      have ly := lyLst (lyInts ms)
      refine ⟨rfl, ?_⟩
      refine ⟨_, rfl, _, _, _, _, rfl, rfl, tupS s2 ht, atI_nat (j := 0) rfl, _, rfl, _, _, _, _, rfl, rfl, tupS s2 ht, atI_nat (j := 1) rfl, .list (dI ms), .list (dI ms), .lst (.of (s2 _ _ h1)) (dpInts ms), .lst (.of (s2 _ _ h2)) (dpInts ms), ly.shaped (by decide), ly.shaped (by decide), _, rfl, ?_⟩
      rw [ly.same]
      exact iteF ⟨s2, hD⟩
    · obtain ⟨s2, hD⟩ := p
      refine ⟨by show 0 ≤ sizeLine; decide, fun N nN => ?_⟩
      refine ⟨.list [], .list [], .lst (.of (sameNew nN _ _ hD)) .nil, .lst (.of upd_same) .nil, rfl, rfl, _, rfl, ?_⟩
      refine iteF ?_
      have sl := Same.trans s23e (Same.trans s2 (sameNew (o := .lst []) nN))
      have hpz := hp23.same sl
      obtain ⟨rv, hpr'⟩ := hpz.pr
      obtain ⟨dx, tt, hx2, ht2⟩ := id hpr'
      refine ⟨_, rfl, x, dx, _, rfl, hx2, x, tops, rv, rfl, hpr', fun l Hl nl sl2 hl => ?_⟩
      have slz := Same.trans sl sl2
      have lyT := lyLst (lyInts tops)
      refine ⟨_, rfl, .list (dI tops), .list (dI tops), .lst (.of hl) (dpInts tops), .lst (.of (slz _ _ htp23)) (dpInts tops), lyT.shaped (by decide), lyT.shaped (by decide), ?_⟩
      rw [lyT.same]
      refine ⟨_, rfl, iteT ?_⟩
      exact ⟨_, rfl, _, rfl, x, Cd, tops, R, rfl, hp23.same slz, hC23.same slz, hcl, fun Hz _ => q Hz⟩

end

end LW

namespace LW
open PySem PySem.Spec PyProof.Rows L2
theorem calMk {P : Program} {w : World} {K : PySem.W.Frag} {mg : Str → Option Value} {base : Heap} {j k : Nat} {x : Str} {sp : Sp} {f : Addr} {fd : FuncData} {ps : List Str} (F : FnOk P w K mg base CX0 j f fd ps sp) (hm : mg x = some (.ref f)) (kp : PySem.W.keepIn K (.ref f) = true) (b : Binds K fd ps []) (h : j ≤ k) : C8.Cal P w K mg base k x sp [] :=
  ⟨f, fd, ps, [], F.mono h, hm, kp, b, .nil⟩
theorem calXMk {P : Program} {w : World} {K : PySem.W.Frag} {mg : Str → Option Value} {base : Heap} {j k : Nat} {x : Str} {sp : Sp} {f : Addr} {fd : FuncData} {ps : List Str} (F : FnOk P w K mg base (L2.CX P w) j f fd ps sp) (hm : mg x = some (.ref f)) (kp : PySem.W.keepIn K (.ref f) = true) (b : Binds K fd ps []) (h : j ≤ k) : CalX P w K mg base k x sp :=
  ⟨f, fd, ps, F.mono h, hm, kp, b⟩
theorem vac {P : Program} {w : World} {K : PySem.W.Frag} {mg : Str → Option Value} {base : Heap} {CX : CXT} {k : Nat} {f : Addr} {fd : FuncData} {ps : List Str} {sp : Sp} (h : ∀ vs H Q E, ¬ sp vs H Q E) : FnOk P w K mg base CX k f fd ps sp :=
  ⟨fun vs H Q E z => absurd z (h vs H Q E), fun A outer s H args us vs Q E hr he hb hv z => absurd z (h vs H Q E)⟩
set_option maxHeartbeats 8000000
theorem all_mk {l : PySem.W.OpenLaw} {w : World} {K : PySem.W.Frag} {h : Heap} {mg : Str → Option Value} {fa : Addr} (X : K.In h) (G : h.Ns mainGlobals mg) (hfa : mg "law" = some (.ref fa))
    {cJ PJ : Addr}
    {C EBadProgram EBadFilling ENoLoop ELoopError : Addr} (aC : PySem.W.nsIn K mainGlobals "Program" = some (some (.ref C))) (aBadProgram : PySem.W.nsIn K mainGlobals "BadProgram" = some (some (.ref EBadProgram))) (aBadFilling : PySem.W.nsIn K mainGlobals "BadFilling" = some (some (.ref EBadFilling))) (aNoLoop : PySem.W.nsIn K mainGlobals "NoLoop" = some (some (.ref ENoLoop))) (aLoopError : PySem.W.nsIn K mainGlobals "LoopError" = some (some (.ref ELoopError)))
    {f1 : Addr} {od1 an1 : Option Addr} {sl1 : Array (Option Value)} {oc1 kV1 dc1 pm1 cd1 ct1 : Value} (a1 : PySem.W.nsIn K mainGlobals "is_filling" = some (some (.ref f1))) (l1 : K.lookup f1 = some ⟨oc1, od1, .func (PySem.W.fnOf "is_filling" "is_filling" (defArgs s_is_filling) (defBody s_is_filling) (defScope s_is_filling) .none kV1 dc1 pm1 an1 (cd1) ct1), sl1⟩) (c1 : PySem.W.codeIn K (cd1) "is_filling" = true) (k1 : PySem.W.keepIn K (.ref f1) = true)
    {f2 : Addr} {od2 an2 : Option Addr} {sl2 : Array (Option Value)} {oc2 kV2 dc2 pm2 cd2 ct2 : Value} (a2 : PySem.W.nsIn K mainGlobals "is_within" = some (some (.ref f2))) (l2 : K.lookup f2 = some ⟨oc2, od2, .func (PySem.W.fnOf "is_within" "is_within" (defArgs s_is_within) (defBody s_is_within) (defScope s_is_within) .none kV2 dc2 pm2 an2 (cd2) ct2), sl2⟩) (c2 : PySem.W.codeIn K (cd2) "is_within" = true) (k2 : PySem.W.keepIn K (.ref f2) = true)
    {f3 : Addr} {od3 an3 : Option Addr} {sl3 : Array (Option Value)} {oc3 kV3 dc3 pm3 cd3 ct3 : Value} (a3 : PySem.W.nsIn K mainGlobals "rows_within" = some (some (.ref f3))) (l3 : K.lookup f3 = some ⟨oc3, od3, .func (PySem.W.fnOf "rows_within" "rows_within" (defArgs s_rows_within) (defBody s_rows_within) (defScope s_rows_within) .none kV3 dc3 pm3 an3 (cd3) ct3), sl3⟩) (c3 : PySem.W.codeIn K (cd3) "rows_within" = true) (k3 : PySem.W.keepIn K (.ref f3) = true)
    {f4 : Addr} {od4 an4 : Option Addr} {sl4 : Array (Option Value)} {oc4 kV4 dc4 pm4 cd4 ct4 : Value} (a4 : PySem.W.nsIn K mainGlobals "_loops_among" = some (some (.ref f4))) (l4 : K.lookup f4 = some ⟨oc4, od4, .func (PySem.W.fnOf "_loops_among" "_loops_among" (defArgs s__loops_among) (defBody s__loops_among) (defScope s__loops_among) .none kV4 dc4 pm4 an4 (cd4) ct4), sl4⟩) (c4 : PySem.W.codeIn K (cd4) "_loops_among" = true) (k4 : PySem.W.keepIn K (.ref f4) = true)
    {f5 : Addr} {od5 an5 : Option Addr} {sl5 : Array (Option Value)} {oc5 kV5 dc5 pm5 cd5 ct5 : Value} (a5 : PySem.W.nsIn K mainGlobals "_check_tops" = some (some (.ref f5))) (l5 : K.lookup f5 = some ⟨oc5, od5, .func (PySem.W.fnOf "_check_tops" "_check_tops" (defArgs s__check_tops) (defBody s__check_tops) (defScope s__check_tops) .none kV5 dc5 pm5 an5 (cd5) ct5), sl5⟩) (c5 : PySem.W.codeIn K (cd5) "_check_tops" = true) (k5 : PySem.W.keepIn K (.ref f5) = true)
    {f6 : Addr} {od6 an6 : Option Addr} {sl6 : Array (Option Value)} {oc6 kV6 dc6 pm6 cd6 ct6 : Value} (a6 : PySem.W.nsIn K mainGlobals "_check_rows" = some (some (.ref f6))) (l6 : K.lookup f6 = some ⟨oc6, od6, .func (PySem.W.fnOf "_check_rows" "_check_rows" (defArgs s__check_rows) (defBody s__check_rows) (defScope s__check_rows) .none kV6 dc6 pm6 an6 (cd6) ct6), sl6⟩) (c6 : PySem.W.codeIn K (cd6) "_check_rows" = true) (k6 : PySem.W.keepIn K (.ref f6) = true)
    {f7 : Addr} {od7 an7 : Option Addr} {sl7 : Array (Option Value)} {oc7 kV7 dc7 pm7 cd7 ct7 : Value} (a7 : PySem.W.nsIn K mainGlobals "_check_count" = some (some (.ref f7))) (l7 : K.lookup f7 = some ⟨oc7, od7, .func (PySem.W.fnOf "_check_count" "_check_count" (defArgs s__check_count) (defBody s__check_count) (defScope s__check_count) .none kV7 dc7 pm7 an7 (cd7) ct7), sl7⟩) (c7 : PySem.W.codeIn K (cd7) "_check_count" = true) (k7 : PySem.W.keepIn K (.ref f7) = true)
    {f8 : Addr} {od8 an8 : Option Addr} {sl8 : Array (Option Value)} {oc8 kV8 dc8 pm8 cd8 ct8 : Value} (a8 : PySem.W.nsIn K mainGlobals "_check_row" = some (some (.ref f8))) (l8 : K.lookup f8 = some ⟨oc8, od8, .func (PySem.W.fnOf "_check_row" "_check_row" (defArgs s__check_row) (defBody s__check_row) (defScope s__check_row) .none kV8 dc8 pm8 an8 (cd8) ct8), sl8⟩) (c8 : PySem.W.codeIn K (cd8) "_check_row" = true) (k8 : PySem.W.keepIn K (.ref f8) = true)
    {f9 : Addr} {od9 an9 : Option Addr} {sl9 : Array (Option Value)} {oc9 kV9 dc9 pm9 cd9 ct9 : Value} (a9 : PySem.W.nsIn K mainGlobals "_are_kept_words" = some (some (.ref f9))) (l9 : K.lookup f9 = some ⟨oc9, od9, .func (PySem.W.fnOf "_are_kept_words" "_are_kept_words" (defArgs s__are_kept_words) (defBody s__are_kept_words) (defScope s__are_kept_words) .none kV9 dc9 pm9 an9 (cd9) ct9), sl9⟩) (c9 : PySem.W.codeIn K (cd9) "_are_kept_words" = true) (k9 : PySem.W.keepIn K (.ref f9) = true)
    {f10 : Addr} {od10 an10 : Option Addr} {sl10 : Array (Option Value)} {oc10 kV10 dc10 pm10 cd10 ct10 : Value} (a10 : PySem.W.nsIn K mainGlobals "_is_sum" = some (some (.ref f10))) (l10 : K.lookup f10 = some ⟨oc10, od10, .func (PySem.W.fnOf "_is_sum" "_is_sum" (defArgs s__is_sum) (defBody s__is_sum) (defScope s__is_sum) .none kV10 dc10 pm10 an10 (cd10) ct10), sl10⟩) (c10 : PySem.W.codeIn K (cd10) "_is_sum" = true) (k10 : PySem.W.keepIn K (.ref f10) = true)
    {f11 : Addr} {od11 an11 : Option Addr} {sl11 : Array (Option Value)} {oc11 kV11 dc11 pm11 cd11 ct11 : Value} (a11 : PySem.W.nsIn K mainGlobals "_is_from_to" = some (some (.ref f11))) (l11 : K.lookup f11 = some ⟨oc11, od11, .func (PySem.W.fnOf "_is_from_to" "_is_from_to" (defArgs s__is_from_to) (defBody s__is_from_to) (defScope s__is_from_to) .none kV11 dc11 pm11 an11 (cd11) ct11), sl11⟩) (c11 : PySem.W.codeIn K (cd11) "_is_from_to" = true) (k11 : PySem.W.keepIn K (.ref f11) = true)
    {f12 : Addr} {od12 an12 : Option Addr} {sl12 : Array (Option Value)} {oc12 kV12 dc12 pm12 cd12 ct12 : Value} (a12 : PySem.W.nsIn K mainGlobals "value" = some (some (.ref f12))) (l12 : K.lookup f12 = some ⟨oc12, od12, .func (PySem.W.fnOf "value" "value" (defArgs s_value) (defBody s_value) (defScope s_value) .none kV12 dc12 pm12 an12 (cd12) ct12), sl12⟩) (c12 : PySem.W.codeIn K (cd12) "value" = true) (k12 : PySem.W.keepIn K (.ref f12) = true)
    {f13 : Addr} {od13 an13 : Option Addr} {sl13 : Array (Option Value)} {oc13 kV13 dc13 pm13 cd13 ct13 : Value} (a13 : PySem.W.nsIn K mainGlobals "opposite" = some (some (.ref f13))) (l13 : K.lookup f13 = some ⟨oc13, od13, .func (PySem.W.fnOf "opposite" "opposite" (defArgs s_opposite) (defBody s_opposite) (defScope s_opposite) .none kV13 dc13 pm13 an13 (cd13) ct13), sl13⟩) (c13 : PySem.W.codeIn K (cd13) "opposite" = true) (k13 : PySem.W.keepIn K (.ref f13) = true)
    {f14 : Addr} {od14 an14 : Option Addr} {sl14 : Array (Option Value)} {oc14 kV14 dc14 pm14 cd14 ct14 : Value} (a14 : PySem.W.nsIn K mainGlobals "put_in" = some (some (.ref f14))) (l14 : K.lookup f14 = some ⟨oc14, od14, .func (PySem.W.fnOf "put_in" "put_in" (defArgs s_put_in) (defBody s_put_in) (defScope s_put_in) .none kV14 dc14 pm14 an14 (cd14) ct14), sl14⟩) (c14 : PySem.W.codeIn K (cd14) "put_in" = true) (k14 : PySem.W.keepIn K (.ref f14) = true)
    {f15 : Addr} {od15 an15 : Option Addr} {sl15 : Array (Option Value)} {oc15 kV15 dc15 pm15 cd15 ct15 : Value} (a15 : PySem.W.nsIn K mainGlobals "behind" = some (some (.ref f15))) (l15 : K.lookup f15 = some ⟨oc15, od15, .func (PySem.W.fnOf "behind" "behind" (defArgs s_behind) (defBody s_behind) (defScope s_behind) .none kV15 dc15 pm15 an15 (cd15) ct15), sl15⟩) (c15 : PySem.W.codeIn K (cd15) "behind" = true) (k15 : PySem.W.keepIn K (.ref f15) = true)
    {f16 : Addr} {od16 an16 : Option Addr} {sl16 : Array (Option Value)} {oc16 kV16 dc16 pm16 cd16 ct16 : Value} (a16 : PySem.W.nsIn K mainGlobals "beginning" = some (some (.ref f16))) (l16 : K.lookup f16 = some ⟨oc16, od16, .func (PySem.W.fnOf "beginning" "beginning" (defArgs s_beginning) (defBody s_beginning) (defScope s_beginning) .none kV16 dc16 pm16 an16 (cd16) ct16), sl16⟩) (c16 : PySem.W.codeIn K (cd16) "beginning" = true) (k16 : PySem.W.keepIn K (.ref f16) = true)
    {f17 : Addr} {od17 an17 : Option Addr} {sl17 : Array (Option Value)} {oc17 kV17 dc17 pm17 cd17 ct17 : Value} (a17 : PySem.W.nsIn K mainGlobals "beyond" = some (some (.ref f17))) (l17 : K.lookup f17 = some ⟨oc17, od17, .func (PySem.W.fnOf "beyond" "beyond" (defArgs s_beyond) (defBody s_beyond) (defScope s_beyond) .none kV17 dc17 pm17 an17 (cd17) ct17), sl17⟩) (c17 : PySem.W.codeIn K (cd17) "beyond" = true) (k17 : PySem.W.keepIn K (.ref f17) = true)
    {f18 : Addr} {od18 an18 : Option Addr} {sl18 : Array (Option Value)} {oc18 kV18 dc18 pm18 cd18 ct18 : Value} (a18 : PySem.W.nsIn K mainGlobals "run" = some (some (.ref f18))) (l18 : K.lookup f18 = some ⟨oc18, od18, .func (PySem.W.fnOf "run" "run" (defArgs s_run) (defBody s_run) (defScope s_run) .none kV18 dc18 pm18 an18 (cd18) ct18), sl18⟩) (c18 : PySem.W.codeIn K (cd18) "run" = true) (k18 : PySem.W.keepIn K (.ref f18) = true)
    {f19 : Addr} {od19 an19 : Option Addr} {sl19 : Array (Option Value)} {oc19 kV19 dc19 pm19 cd19 ct19 : Value} (a19 : PySem.W.nsIn K mainGlobals "_run_from" = some (some (.ref f19))) (l19 : K.lookup f19 = some ⟨oc19, od19, .func (PySem.W.fnOf "_run_from" "_run_from" (defArgs s__run_from) (defBody s__run_from) (defScope s__run_from) .none kV19 dc19 pm19 an19 (cd19) ct19), sl19⟩) (c19 : PySem.W.codeIn K (cd19) "_run_from" = true) (k19 : PySem.W.keepIn K (.ref f19) = true)
    {f20 : Addr} {od20 an20 : Option Addr} {sl20 : Array (Option Value)} {oc20 kV20 dc20 pm20 cd20 ct20 : Value} (a20 : PySem.W.nsIn K mainGlobals "_let_without_rounds" = some (some (.ref f20))) (l20 : K.lookup f20 = some ⟨oc20, od20, .func (PySem.W.fnOf "_let_without_rounds" "_let_without_rounds" (defArgs s__let_without_rounds) (defBody s__let_without_rounds) (defScope s__let_without_rounds) .none kV20 dc20 pm20 an20 (cd20) ct20), sl20⟩) (c20 : PySem.W.codeIn K (cd20) "_let_without_rounds" = true) (k20 : PySem.W.keepIn K (.ref f20) = true)
    {f21 : Addr} {od21 an21 : Option Addr} {sl21 : Array (Option Value)} {oc21 kV21 dc21 pm21 cd21 ct21 : Value} (a21 : PySem.W.nsIn K mainGlobals "_after" = some (some (.ref f21))) (l21 : K.lookup f21 = some ⟨oc21, od21, .func (PySem.W.fnOf "_after" "_after" (defArgs s__after) (defBody s__after) (defScope s__after) .none kV21 dc21 pm21 an21 (cd21) ct21), sl21⟩) (c21 : PySem.W.codeIn K (cd21) "_after" = true) (k21 : PySem.W.keepIn K (.ref f21) = true)
    {f22 : Addr} {od22 an22 : Option Addr} {sl22 : Array (Option Value)} {oc22 kV22 dc22 pm22 cd22 ct22 : Value} (a22 : PySem.W.nsIn K mainGlobals "_breaks" = some (some (.ref f22))) (l22 : K.lookup f22 = some ⟨oc22, od22, .func (PySem.W.fnOf "_breaks" "_breaks" (defArgs s__breaks) (defBody s__breaks) (defScope s__breaks) .none kV22 dc22 pm22 an22 (cd22) ct22), sl22⟩) (c22 : PySem.W.codeIn K (cd22) "_breaks" = true) (k22 : PySem.W.keepIn K (.ref f22) = true)
    {f23 : Addr} {od23 an23 : Option Addr} {sl23 : Array (Option Value)} {oc23 kV23 dc23 pm23 cd23 ct23 : Value} (a23 : PySem.W.nsIn K mainGlobals "_rows_around" = some (some (.ref f23))) (l23 : K.lookup f23 = some ⟨oc23, od23, .func (PySem.W.fnOf "_rows_around" "_rows_around" (defArgs s__rows_around) (defBody s__rows_around) (defScope s__rows_around) .none kV23 dc23 pm23 an23 (cd23) ct23), sl23⟩) (c23 : PySem.W.codeIn K (cd23) "_rows_around" = true) (k23 : PySem.W.keepIn K (.ref f23) = true)
    {f24 : Addr} {od24 an24 : Option Addr} {sl24 : Array (Option Value)} {oc24 kV24 dc24 pm24 cd24 ct24 : Value} (a24 : PySem.W.nsIn K mainGlobals "asked" = some (some (.ref f24))) (l24 : K.lookup f24 = some ⟨oc24, od24, .func (PySem.W.fnOf "asked" "asked" (defArgs s_asked) (defBody s_asked) (defScope s_asked) .none kV24 dc24 pm24 an24 (cd24) ct24), sl24⟩) (c24 : PySem.W.codeIn K (cd24) "asked" = true) (k24 : PySem.W.keepIn K (.ref f24) = true)
    {f25 : Addr} {od25 an25 : Option Addr} {sl25 : Array (Option Value)} {oc25 kV25 dc25 pm25 cd25 ct25 : Value} (a25 : PySem.W.nsIn K mainGlobals "tasks" = some (some (.ref f25))) (l25 : K.lookup f25 = some ⟨oc25, od25, .func (PySem.W.fnOf "tasks" "tasks" (defArgs s_tasks) (defBody s_tasks) (defScope s_tasks) .none kV25 dc25 pm25 an25 (cd25) ct25), sl25⟩) (c25 : PySem.W.codeIn K (cd25) "tasks" = true) (k25 : PySem.W.keepIn K (.ref f25) = true)
    {f26 : Addr} {od26 an26 : Option Addr} {sl26 : Array (Option Value)} {oc26 kV26 dc26 pm26 cd26 ct26 : Value} (a26 : PySem.W.nsIn K mainGlobals "_ways" = some (some (.ref f26))) (l26 : K.lookup f26 = some ⟨oc26, od26, .func (PySem.W.fnOf "_ways" "_ways" (defArgs s__ways) (defBody s__ways) (defScope s__ways) .none kV26 dc26 pm26 an26 (cd26) ct26), sl26⟩) (c26 : PySem.W.codeIn K (cd26) "_ways" = true) (k26 : PySem.W.keepIn K (.ref f26) = true)
    {f27 : Addr} {od27 an27 : Option Addr} {sl27 : Array (Option Value)} {oc27 kV27 dc27 pm27 cd27 ct27 : Value} (a27 : PySem.W.nsIn K mainGlobals "_beginnings" = some (some (.ref f27))) (l27 : K.lookup f27 = some ⟨oc27, od27, .func (PySem.W.fnOf "_beginnings" "_beginnings" (defArgs s__beginnings) (defBody s__beginnings) (defScope s__beginnings) .none kV27 dc27 pm27 an27 (cd27) ct27), sl27⟩) (c27 : PySem.W.codeIn K (cd27) "_beginnings" = true) (k27 : PySem.W.keepIn K (.ref f27) = true)
    {f28 : Addr} {od28 an28 : Option Addr} {sl28 : Array (Option Value)} {oc28 kV28 dc28 pm28 cd28 ct28 : Value} (a28 : PySem.W.nsIn K mainGlobals "_further" = some (some (.ref f28))) (l28 : K.lookup f28 = some ⟨oc28, od28, .func (PySem.W.fnOf "_further" "_further" (defArgs s__further) (defBody s__further) (defScope s__further) .none kV28 dc28 pm28 an28 (cd28) ct28), sl28⟩) (c28 : PySem.W.codeIn K (cd28) "_further" = true) (k28 : PySem.W.keepIn K (.ref f28) = true)
    {f29 : Addr} {od29 an29 : Option Addr} {sl29 : Array (Option Value)} {oc29 kV29 dc29 pm29 cd29 ct29 : Value} (a29 : PySem.W.nsIn K mainGlobals "_both" = some (some (.ref f29))) (l29 : K.lookup f29 = some ⟨oc29, od29, .func (PySem.W.fnOf "_both" "_both" (defArgs s__both) (defBody s__both) (defScope s__both) .none kV29 dc29 pm29 an29 (cd29) ct29), sl29⟩) (c29 : PySem.W.codeIn K (cd29) "_both" = true) (k29 : PySem.W.keepIn K (.ref f29) = true)
    {f30 : Addr} {od30 an30 : Option Addr} {sl30 : Array (Option Value)} {oc30 kV30 dc30 pm30 cd30 ct30 : Value} (a30 : PySem.W.nsIn K mainGlobals "_of_one_box" = some (some (.ref f30))) (l30 : K.lookup f30 = some ⟨oc30, od30, .func (PySem.W.fnOf "_of_one_box" "_of_one_box" (defArgs s__of_one_box) (defBody s__of_one_box) (defScope s__of_one_box) .none kV30 dc30 pm30 an30 (cd30) ct30), sl30⟩) (c30 : PySem.W.codeIn K (cd30) "_of_one_box" = true) (k30 : PySem.W.keepIn K (.ref f30) = true)
    {f31 : Addr} {od31 an31 : Option Addr} {sl31 : Array (Option Value)} {oc31 kV31 dc31 pm31 cd31 ct31 : Value} (a31 : PySem.W.nsIn K mainGlobals "tried" = some (some (.ref f31))) (l31 : K.lookup f31 = some ⟨oc31, od31, .func (PySem.W.fnOf "tried" "tried" (defArgs s_tried) (defBody s_tried) (defScope s_tried) .none kV31 dc31 pm31 an31 (cd31) ct31), sl31⟩) (c31 : PySem.W.codeIn K (cd31) "tried" = true) (k31 : PySem.W.keepIn K (.ref f31) = true)
    {f32 : Addr} {od32 an32 : Option Addr} {sl32 : Array (Option Value)} {oc32 kV32 dc32 pm32 cd32 ct32 : Value} (a32 : PySem.W.nsIn K mainGlobals "_tried" = some (some (.ref f32))) (l32 : K.lookup f32 = some ⟨oc32, od32, .func (PySem.W.fnOf "_tried" "_tried" (defArgs s__tried) (defBody s__tried) (defScope s__tried) .none kV32 dc32 pm32 an32 (cd32) ct32), sl32⟩) (c32 : PySem.W.codeIn K (cd32) "_tried" = true) (k32 : PySem.W.keepIn K (.ref f32) = true)
    {f33 : Addr} {od33 an33 : Option Addr} {sl33 : Array (Option Value)} {oc33 kV33 dc33 pm33 cd33 ct33 : Value} (a33 : PySem.W.nsIn K mainGlobals "_where_to_cut" = some (some (.ref f33))) (l33 : K.lookup f33 = some ⟨oc33, od33, .func (PySem.W.fnOf "_where_to_cut" "_where_to_cut" (defArgs s__where_to_cut) (defBody s__where_to_cut) (defScope s__where_to_cut) .none kV33 dc33 pm33 an33 (cd33) ct33), sl33⟩) (c33 : PySem.W.codeIn K (cd33) "_where_to_cut" = true) (k33 : PySem.W.keepIn K (.ref f33) = true)
    {f34 : Addr} {od34 an34 : Option Addr} {sl34 : Array (Option Value)} {oc34 kV34 dc34 pm34 cd34 ct34 : Value} (a34 : PySem.W.nsIn K mainGlobals "_cut" = some (some (.ref f34))) (l34 : K.lookup f34 = some ⟨oc34, od34, .func (PySem.W.fnOf "_cut" "_cut" (defArgs s__cut) (defBody s__cut) (defScope s__cut) .none kV34 dc34 pm34 an34 (cd34) ct34), sl34⟩) (c34 : PySem.W.codeIn K (cd34) "_cut" = true) (k34 : PySem.W.keepIn K (.ref f34) = true)
    {f35 : Addr} {od35 an35 : Option Addr} {sl35 : Array (Option Value)} {oc35 kV35 dc35 pm35 cd35 ct35 : Value} (a35 : PySem.W.nsIn K mainGlobals "_least_and_most" = some (some (.ref f35))) (l35 : K.lookup f35 = some ⟨oc35, od35, .func (PySem.W.fnOf "_least_and_most" "_least_and_most" (defArgs s__least_and_most) (defBody s__least_and_most) (defScope s__least_and_most) .none kV35 dc35 pm35 an35 (cd35) ct35), sl35⟩) (c35 : PySem.W.codeIn K (cd35) "_least_and_most" = true) (k35 : PySem.W.keepIn K (.ref f35) = true)
    {f36 : Addr} {od36 an36 : Option Addr} {sl36 : Array (Option Value)} {oc36 kV36 dc36 pm36 ct36 : Value} (a36 : PySem.W.nsIn K mainGlobals "judged" = some (some (.ref f36))) (l36 : K.lookup f36 = some ⟨oc36, od36, .func (PySem.W.fnOf "judged" "judged" (defArgs s_judged) (defBody s_judged) (defScope s_judged) .none kV36 dc36 pm36 an36 (.ref cJ) ct36), sl36⟩) (c36 : PySem.W.codeIn K (.ref cJ) "judged" = true) (k36 : PySem.W.keepIn K (.ref f36) = true)
    {f37 : Addr} {od37 an37 : Option Addr} {sl37 : Array (Option Value)} {oc37 kV37 dc37 pm37 cd37 ct37 : Value} (a37 : PySem.W.nsIn K mainGlobals "_all_within" = some (some (.ref f37))) (l37 : K.lookup f37 = some ⟨oc37, od37, .func (PySem.W.fnOf "_all_within" "_all_within" (defArgs s__all_within) (defBody s__all_within) (defScope s__all_within) .none kV37 dc37 pm37 an37 (cd37) ct37), sl37⟩) (c37 : PySem.W.codeIn K (cd37) "_all_within" = true) (k37 : PySem.W.keepIn K (.ref f37) = true)
    {f38 : Addr} {od38 an38 : Option Addr} {sl38 : Array (Option Value)} {oc38 kV38 dc38 pm38 cd38 ct38 : Value} (a38 : PySem.W.nsIn K mainGlobals "_law_at" = some (some (.ref f38))) (l38 : K.lookup f38 = some ⟨oc38, od38, .func (PySem.W.fnOf "_law_at" "_law_at" (defArgs s__law_at) (defBody s__law_at) (defScope s__law_at) .none kV38 dc38 pm38 an38 (cd38) ct38), sl38⟩) (c38 : PySem.W.codeIn K (cd38) "_law_at" = true) (k38 : PySem.W.keepIn K (.ref f38) = true)
    {f39 : Addr} {od39 an39 : Option Addr} {sl39 : Array (Option Value)} {oc39 kV39 dc39 pm39 cd39 ct39 : Value} (a39 : PySem.W.nsIn K mainGlobals "_law_whole" = some (some (.ref f39))) (l39 : K.lookup f39 = some ⟨oc39, od39, .func (PySem.W.fnOf "_law_whole" "_law_whole" (defArgs s__law_whole) (defBody s__law_whole) (defScope s__law_whole) .none kV39 dc39 pm39 an39 (cd39) ct39), sl39⟩) (c39 : PySem.W.codeIn K (cd39) "_law_whole" = true) (k39 : PySem.W.keepIn K (.ref f39) = true)
    {f40 : Addr} {od40 an40 : Option Addr} {sl40 : Array (Option Value)} {oc40 kV40 dc40 pm40 cd40 ct40 : Value} (a40 : PySem.W.nsIn K mainGlobals "_law_value" = some (some (.ref f40))) (l40 : K.lookup f40 = some ⟨oc40, od40, .func (PySem.W.fnOf "_law_value" "_law_value" (defArgs s__law_value) (defBody s__law_value) (defScope s__law_value) .none kV40 dc40 pm40 an40 (cd40) ct40), sl40⟩) (c40 : PySem.W.codeIn K (cd40) "_law_value" = true) (k40 : PySem.W.keepIn K (.ref f40) = true)
    {f41 : Addr} {od41 an41 : Option Addr} {sl41 : Array (Option Value)} {oc41 kV41 dc41 pm41 cd41 ct41 : Value} (a41 : PySem.W.nsIn K mainGlobals "_law_tops" = some (some (.ref f41))) (l41 : K.lookup f41 = some ⟨oc41, od41, .func (PySem.W.fnOf "_law_tops" "_law_tops" (defArgs s__law_tops) (defBody s__law_tops) (defScope s__law_tops) .none kV41 dc41 pm41 an41 (cd41) ct41), sl41⟩) (c41 : PySem.W.codeIn K (cd41) "_law_tops" = true) (k41 : PySem.W.keepIn K (.ref f41) = true)
    {f42 : Addr} {od42 an42 : Option Addr} {sl42 : Array (Option Value)} {oc42 kV42 dc42 pm42 cd42 ct42 : Value} (a42 : PySem.W.nsIn K mainGlobals "_law_unit" = some (some (.ref f42))) (l42 : K.lookup f42 = some ⟨oc42, od42, .func (PySem.W.fnOf "_law_unit" "_law_unit" (defArgs s__law_unit) (defBody s__law_unit) (defScope s__law_unit) .none kV42 dc42 pm42 an42 (cd42) ct42), sl42⟩) (c42 : PySem.W.codeIn K (cd42) "_law_unit" = true) (k42 : PySem.W.keepIn K (.ref f42) = true)
    {f43 : Addr} {od43 an43 : Option Addr} {sl43 : Array (Option Value)} {oc43 kV43 dc43 pm43 cd43 ct43 : Value} (a43 : PySem.W.nsIn K mainGlobals "_law_word" = some (some (.ref f43))) (l43 : K.lookup f43 = some ⟨oc43, od43, .func (PySem.W.fnOf "_law_word" "_law_word" (defArgs s__law_word) (defBody s__law_word) (defScope s__law_word) .none kV43 dc43 pm43 an43 (cd43) ct43), sl43⟩) (c43 : PySem.W.codeIn K (cd43) "_law_word" = true) (k43 : PySem.W.keepIn K (.ref f43) = true)
    {f44 : Addr} {od44 an44 : Option Addr} {sl44 : Array (Option Value)} {oc44 kV44 dc44 pm44 cd44 ct44 : Value} (a44 : PySem.W.nsIn K mainGlobals "_law_into" = some (some (.ref f44))) (l44 : K.lookup f44 = some ⟨oc44, od44, .func (PySem.W.fnOf "_law_into" "_law_into" (defArgs s__law_into) (defBody s__law_into) (defScope s__law_into) .none kV44 dc44 pm44 an44 (cd44) ct44), sl44⟩) (c44 : PySem.W.codeIn K (cd44) "_law_into" = true) (k44 : PySem.W.keepIn K (.ref f44) = true)
    {f45 : Addr} {od45 an45 : Option Addr} {sl45 : Array (Option Value)} {oc45 kV45 dc45 pm45 cd45 ct45 : Value} (a45 : PySem.W.nsIn K mainGlobals "_law_row" = some (some (.ref f45))) (l45 : K.lookup f45 = some ⟨oc45, od45, .func (PySem.W.fnOf "_law_row" "_law_row" (defArgs s__law_row) (defBody s__law_row) (defScope s__law_row) .none kV45 dc45 pm45 an45 (cd45) ct45), sl45⟩) (c45 : PySem.W.codeIn K (cd45) "_law_row" = true) (k45 : PySem.W.keepIn K (.ref f45) = true)
    {f46 : Addr} {od46 an46 : Option Addr} {sl46 : Array (Option Value)} {oc46 kV46 dc46 pm46 cd46 ct46 : Value} (a46 : PySem.W.nsIn K mainGlobals "_law_rows" = some (some (.ref f46))) (l46 : K.lookup f46 = some ⟨oc46, od46, .func (PySem.W.fnOf "_law_rows" "_law_rows" (defArgs s__law_rows) (defBody s__law_rows) (defScope s__law_rows) .none kV46 dc46 pm46 an46 (cd46) ct46), sl46⟩) (c46 : PySem.W.codeIn K (cd46) "_law_rows" = true) (k46 : PySem.W.keepIn K (.ref f46) = true)
    {f47 : Addr} {od47 an47 : Option Addr} {sl47 : Array (Option Value)} {oc47 kV47 dc47 pm47 cd47 ct47 : Value} (a47 : PySem.W.nsIn K mainGlobals "_law_program" = some (some (.ref f47))) (l47 : K.lookup f47 = some ⟨oc47, od47, .func (PySem.W.fnOf "_law_program" "_law_program" (defArgs s__law_program) (defBody s__law_program) (defScope s__law_program) .none kV47 dc47 pm47 an47 (cd47) ct47), sl47⟩) (c47 : PySem.W.codeIn K (cd47) "_law_program" = true) (k47 : PySem.W.keepIn K (.ref f47) = true)
    {f48 : Addr} {od48 an48 : Option Addr} {sl48 : Array (Option Value)} {oc48 kV48 dc48 pm48 cd48 ct48 : Value} (a48 : PySem.W.nsIn K mainGlobals "_law_code" = some (some (.ref f48))) (l48 : K.lookup f48 = some ⟨oc48, od48, .func (PySem.W.fnOf "_law_code" "_law_code" (defArgs s__law_code) (defBody s__law_code) (defScope s__law_code) .none kV48 dc48 pm48 an48 (cd48) ct48), sl48⟩) (c48 : PySem.W.codeIn K (cd48) "_law_code" = true) (k48 : PySem.W.keepIn K (.ref f48) = true)
    {f49 : Addr} {od49 an49 : Option Addr} {sl49 : Array (Option Value)} {oc49 kV49 dc49 pm49 cd49 ct49 : Value} (a49 : PySem.W.nsIn K mainGlobals "_law_asked" = some (some (.ref f49))) (l49 : K.lookup f49 = some ⟨oc49, od49, .func (PySem.W.fnOf "_law_asked" "_law_asked" (defArgs s__law_asked) (defBody s__law_asked) (defScope s__law_asked) .none kV49 dc49 pm49 an49 (cd49) ct49), sl49⟩) (c49 : PySem.W.codeIn K (cd49) "_law_asked" = true) (k49 : PySem.W.keepIn K (.ref f49) = true)
    {f50 : Addr} {od50 an50 : Option Addr} {sl50 : Array (Option Value)} {oc50 kV50 dc50 pm50 cd50 ct50 : Value} (a50 : PySem.W.nsIn K mainGlobals "_law_is_bad" = some (some (.ref f50))) (l50 : K.lookup f50 = some ⟨oc50, od50, .func (PySem.W.fnOf "_law_is_bad" "_law_is_bad" (defArgs s__law_is_bad) (defBody s__law_is_bad) (defScope s__law_is_bad) .none kV50 dc50 pm50 an50 (cd50) ct50), sl50⟩) (c50 : PySem.W.codeIn K (cd50) "_law_is_bad" = true) (k50 : PySem.W.keepIn K (.ref f50) = true)
    {f51 : Addr} {od51 an51 : Option Addr} {sl51 : Array (Option Value)} {oc51 kV51 dc51 pm51 cd51 ct51 : Value} (a51 : PySem.W.nsIn K mainGlobals "_law_run" = some (some (.ref f51))) (l51 : K.lookup f51 = some ⟨oc51, od51, .func (PySem.W.fnOf "_law_run" "_law_run" (defArgs s__law_run) (defBody s__law_run) (defScope s__law_run) .none kV51 dc51 pm51 an51 (cd51) ct51), sl51⟩) (c51 : PySem.W.codeIn K (cd51) "_law_run" = true) (k51 : PySem.W.keepIn K (.ref f51) = true)
    {f52 : Addr} {od52 an52 : Option Addr} {sl52 : Array (Option Value)} {oc52 kV52 dc52 pm52 cd52 ct52 : Value} (a52 : PySem.W.nsIn K mainGlobals "_law_behind" = some (some (.ref f52))) (l52 : K.lookup f52 = some ⟨oc52, od52, .func (PySem.W.fnOf "_law_behind" "_law_behind" (defArgs s__law_behind) (defBody s__law_behind) (defScope s__law_behind) .none kV52 dc52 pm52 an52 (cd52) ct52), sl52⟩) (c52 : PySem.W.codeIn K (cd52) "_law_behind" = true) (k52 : PySem.W.keepIn K (.ref f52) = true)
    {f53 : Addr} {od53 an53 : Option Addr} {sl53 : Array (Option Value)} {oc53 kV53 dc53 pm53 cd53 ct53 : Value} (a53 : PySem.W.nsIn K mainGlobals "_law_behinds_right" = some (some (.ref f53))) (l53 : K.lookup f53 = some ⟨oc53, od53, .func (PySem.W.fnOf "_law_behinds_right" "_law_behinds_right" (defArgs s__law_behinds_right) (defBody s__law_behinds_right) (defScope s__law_behinds_right) .none kV53 dc53 pm53 an53 (cd53) ct53), sl53⟩) (c53 : PySem.W.codeIn K (cd53) "_law_behinds_right" = true) (k53 : PySem.W.keepIn K (.ref f53) = true)
    {f54 : Addr} {od54 an54 : Option Addr} {sl54 : Array (Option Value)} {oc54 kV54 dc54 pm54 cd54 ct54 : Value} (a54 : PySem.W.nsIn K mainGlobals "_law_same" = some (some (.ref f54))) (l54 : K.lookup f54 = some ⟨oc54, od54, .func (PySem.W.fnOf "_law_same" "_law_same" (defArgs s__law_same) (defBody s__law_same) (defScope s__law_same) .none kV54 dc54 pm54 an54 (cd54) ct54), sl54⟩) (c54 : PySem.W.codeIn K (cd54) "_law_same" = true) (k54 : PySem.W.keepIn K (.ref f54) = true)
    {f55 : Addr} {od55 an55 : Option Addr} {sl55 : Array (Option Value)} {oc55 kV55 dc55 pm55 cd55 ct55 : Value} (a55 : PySem.W.nsIn K mainGlobals "_law_refused" = some (some (.ref f55))) (l55 : K.lookup f55 = some ⟨oc55, od55, .func (PySem.W.fnOf "_law_refused" "_law_refused" (defArgs s__law_refused) (defBody s__law_refused) (defScope s__law_refused) .none kV55 dc55 pm55 an55 (cd55) ct55), sl55⟩) (c55 : PySem.W.codeIn K (cd55) "_law_refused" = true) (k55 : PySem.W.keepIn K (.ref f55) = true)
    {f56 : Addr} {od56 an56 : Option Addr} {sl56 : Array (Option Value)} {oc56 kV56 dc56 pm56 cd56 ct56 : Value} (a56 : PySem.W.nsIn K mainGlobals "_law_filling" = some (some (.ref f56))) (l56 : K.lookup f56 = some ⟨oc56, od56, .func (PySem.W.fnOf "_law_filling" "_law_filling" (defArgs s__law_filling) (defBody s__law_filling) (defScope s__law_filling) .none kV56 dc56 pm56 an56 (cd56) ct56), sl56⟩) (c56 : PySem.W.codeIn K (cd56) "_law_filling" = true) (k56 : PySem.W.keepIn K (.ref f56) = true)
    {f57 : Addr} {od57 an57 : Option Addr} {sl57 : Array (Option Value)} {oc57 kV57 dc57 pm57 cd57 ct57 : Value} (a57 : PySem.W.nsIn K mainGlobals "law" = some (some (.ref f57))) (l57 : K.lookup f57 = some ⟨oc57, od57, .func (PySem.W.fnOf "law" "law" (defArgs s_law) (defBody s_law) (defScope s_law) .none kV57 dc57 pm57 an57 (cd57) ct57), sl57⟩) (c57 : PySem.W.codeIn K (cd57) "law" = true) (k57 : PySem.W.keepIn K (.ref f57) = true)
    {f58 : Addr} {od58 an58 : Option Addr} {sl58 : Array (Option Value)} {oc58 kV58 dc58 pm58 cd58 ct58 : Value} (a58 : PySem.W.findIn K (.ref C) "__init__" = some (some (.ref f58))) (i58 : PySem.W.isFn K (.ref f58) = true) (l58 : K.lookup f58 = some ⟨oc58, od58, .func (PySem.W.fnOf "__init__" "Program.__init__" (defArgs s_Program___init__) (defBody s_Program___init__) (defScope s_Program___init__) .none kV58 dc58 pm58 an58 (cd58) ct58), sl58⟩) (c58 : PySem.W.codeIn K (cd58) "Program.__init__" = true) (k58 : PySem.W.keepIn K (.ref f58) = true)
    {f59 : Addr} {od59 an59 : Option Addr} {sl59 : Array (Option Value)} {oc59 kV59 dc59 pm59 cd59 ct59 : Value} (a59 : PySem.W.findIn K (.ref C) "row" = some (some (.ref f59))) (i59 : PySem.W.isFn K (.ref f59) = true) (l59 : K.lookup f59 = some ⟨oc59, od59, .func (PySem.W.fnOf "row" "Program.row" (defArgs s_Program_row) (defBody s_Program_row) (defScope s_Program_row) .none kV59 dc59 pm59 an59 (cd59) ct59), sl59⟩) (c59 : PySem.W.codeIn K (cd59) "Program.row" = true) (k59 : PySem.W.keepIn K (.ref f59) = true)
    {f60 : Addr} {od60 an60 : Option Addr} {sl60 : Array (Option Value)} {oc60 kV60 dc60 pm60 cd60 ct60 : Value} (a60 : PySem.W.findIn K (.ref C) "loops" = some (some (.ref f60))) (i60 : PySem.W.isFn K (.ref f60) = true) (l60 : K.lookup f60 = some ⟨oc60, od60, .func (PySem.W.fnOf "loops" "Program.loops" (defArgs s_Program_loops) (defBody s_Program_loops) (defScope s_Program_loops) .none kV60 dc60 pm60 an60 (cd60) ct60), sl60⟩) (c60 : PySem.W.codeIn K (cd60) "Program.loops" = true) (k60 : PySem.W.keepIn K (.ref f60) = true)
    {f61 : Addr} {od61 an61 : Option Addr} {sl61 : Array (Option Value)} {oc61 kV61 dc61 pm61 cd61 ct61 : Value} {pt : Addr} {rt : List Value} (pp : PySem.W.findIn K (.ref C) "tops" = some (some (.ref pt))) (ps : PySem.W.specialIn K (.ref pt) "__get__" = some (some (.builtin "property.__get__"))) (pk : PySem.W.takesIn K (.ref pt) = some true) (pr : PySem.W.recIn K pt "property" = some (.ref f61 :: rt)) (l61 : K.lookup f61 = some ⟨oc61, od61, .func (PySem.W.fnOf "tops" "Program.tops" (defArgs s_Program_tops) (defBody s_Program_tops) (defScope s_Program_tops) .none kV61 dc61 pm61 an61 (cd61) ct61), sl61⟩) (c61 : PySem.W.codeIn K (cd61) "Program.tops" = true) (k61 : PySem.W.keepIn K (.ref f61) = true)
    (pg : PySem.W.plainGet K C Str.empty = true) (hd : PySem.W.hasDictIn K C = true) (po : PySem.W.plainOver K C = true) (sa : PySem.W.findIn K (.ref C) "__setattr__" = some (some (.builtin "object.__setattr__"))) (mk : PySem.W.makesIn K C = true) (kc : PySem.W.keepIn K (.ref C) = true) (n1 : PySem.W.findIn K (.ref C) "_tops" = some none) (n2 : PySem.W.findIn K (.ref C) "rows" = some none)
    (xBadProgram : PySem.W.excIn K EBadProgram [.type "ValueError", .type "Exception", .type "BaseException", .type "object"] "ValueError.__new__" = true) (kBadProgram : PySem.W.keepIn K (.ref EBadProgram) = true) (bBadProgram : PySem.W.subIn K (.ref EBadProgram) (.type "BaseException") = some true) (tBadProgram : PySem.W.typeIn K (.ref EBadProgram) = some (.type "type"))
    (xBadFilling : PySem.W.excIn K EBadFilling [.type "ValueError", .type "Exception", .type "BaseException", .type "object"] "ValueError.__new__" = true) (kBadFilling : PySem.W.keepIn K (.ref EBadFilling) = true) (bBadFilling : PySem.W.subIn K (.ref EBadFilling) (.type "BaseException") = some true) (tBadFilling : PySem.W.typeIn K (.ref EBadFilling) = some (.type "type"))
    (xNoLoop : PySem.W.excIn K ENoLoop [.type "ValueError", .type "Exception", .type "BaseException", .type "object"] "ValueError.__new__" = true) (kNoLoop : PySem.W.keepIn K (.ref ENoLoop) = true) (bNoLoop : PySem.W.subIn K (.ref ENoLoop) (.type "BaseException") = some true) (tNoLoop : PySem.W.typeIn K (.ref ENoLoop) = some (.type "type"))
    (xLoopError : PySem.W.excIn K ELoopError [.type "ValueError", .type "Exception", .type "BaseException", .type "object"] "ValueError.__new__" = true) (kLoopError : PySem.W.keepIn K (.ref ELoopError) = true) (bLoopError : PySem.W.subIn K (.ref ELoopError) (.type "BaseException") = some true) (tLoopError : PySem.W.typeIn K (.ref ELoopError) = some (.type "type"))
    {t_MOST_BOXES : Tok} (n_MOST_BOXES : PySem.W.nsIn K mainGlobals "MOST_BOXES" = some (some (.int 3 t_MOST_BOXES)))
    {t_HIGHEST_TOP : Tok} (n_HIGHEST_TOP : PySem.W.nsIn K mainGlobals "HIGHEST_TOP" = some (some (.int 9 t_HIGHEST_TOP)))
    {t_MOST_ROWS : Tok} (n_MOST_ROWS : PySem.W.nsIn K mainGlobals "MOST_ROWS" = some (some (.int 12 t_MOST_ROWS)))
    {t_MOST_WITHIN : Tok} (n_MOST_WITHIN : PySem.W.nsIn K mainGlobals "MOST_WITHIN" = some (some (.int 3 t_MOST_WITHIN)))
    {t_MOST_KEPT : Tok} (n_MOST_KEPT : PySem.W.nsIn K mainGlobals "MOST_KEPT" = some (some (.int 3 t_MOST_KEPT)))
    {t_HIGHEST_NUMBER : Tok} (n_HIGHEST_NUMBER : PySem.W.nsIn K mainGlobals "HIGHEST_NUMBER" = some (some (.int 9 t_HIGHEST_NUMBER)))
    {t_HIGHEST_LAST : Tok} (n_HIGHEST_LAST : PySem.W.nsIn K mainGlobals "HIGHEST_LAST" = some (some (.int 99 t_HIGHEST_LAST)))
    (hTab : h.get? PJ = some (PySem.W.tabObj #[])) (hCode : PySem.W.codeHdIn K cJ PJ = true) (hNo : K.lookup PJ = none)
    (e1f : PySem.W.findIn K (.ref EBadFilling) "__getattribute__" = some (some (.builtin "BaseException.__getattribute__")))
    (e2f : PySem.W.findIn K (.ref EBadFilling) "__getattr__" = some none)
    (e3f : PySem.W.findIn K (.ref EBadFilling) "__class__" = some (some (.builtin "object.__class__")))
    (df : PySem.W.hasDictIn K EBadFilling = true)
    (e6f : PySem.W.mroIn K EBadFilling (.type "object") = some true)
    (sf : PySem.W.subIn K (.ref EBadFilling) (.ref EBadFilling) = some true)
    (e4 : PySem.W.specialIn K (.builtin "object.__class__") "__get__" = some (some (.builtin "getset_descriptor.__get__")))
    (e5 : PySem.W.takesIn K (.builtin "object.__class__") = some true)
    (zV : PySem.W.nsIn K mainGlobals "ValueError" = some none)
    (qFN : PySem.W.kitOne K (.ref EBadFilling) (.ref ENoLoop) = some false)
    (qFB : PySem.W.kitOne K (.ref EBadFilling) (.ref EBadProgram) = some false)
    (qFL : PySem.W.kitOne K (.ref EBadFilling) (.ref ELoopError) = some true)
    (qFV : PySem.W.kitOne K (.ref EBadFilling) (.type "ValueError") = some true)
    (z_len : PySem.W.nsIn K mainGlobals "len" = some none) (z_range : PySem.W.nsIn K mainGlobals "range" = some none) (z_zip : PySem.W.nsIn K mainGlobals "zip" = some none) (z_enumerate : PySem.W.nsIn K mainGlobals "enumerate" = some none) (z_sum : PySem.W.nsIn K mainGlobals "sum" = some none) (z_all : PySem.W.nsIn K mainGlobals "all" = some none) (z_tuple : PySem.W.nsIn K mainGlobals "tuple" = some none) (z_list : PySem.W.nsIn K mainGlobals "list" = some none) (z_isinstance : PySem.W.nsIn K mainGlobals "isinstance" = some none) (z_int : PySem.W.nsIn K mainGlobals "int" = some none) (z_bool : PySem.W.nsIn K mainGlobals "bool" = some none) (z_str : PySem.W.nsIn K mainGlobals "str" = some none) (z_type : PySem.W.nsIn K mainGlobals "type" = some none) (z_abs : PySem.W.nsIn K mainGlobals "abs" = some none) (z_sorted : PySem.W.nsIn K mainGlobals "sorted" = some none) (z_any : PySem.W.nsIn K mainGlobals "any" = some none) :
    LamX.LawAtS l w K CX0 66 63 "_law_script" mg fa h := by
  have e := hfa.symm.trans (PySem.W.mg_of X G a57)
  cases e
  have F1 := fun_mk (st := s_is_filling) l1 c1 k1
  have b1 := F1.binds (ps := ["program", "filling"]) fun _ _ _ _ _ _ us hl => match us, hl with | [_, _], _ => rfl
  have m1 := PySem.W.mg_of X G a1
  have F2 := fun_mk (st := s_is_within) l2 c2 k2
  have b2 := F2.binds (ps := ["program", "filling"]) fun _ _ _ _ _ _ us hl => match us, hl with | [_, _], _ => rfl
  have m2 := PySem.W.mg_of X G a2
  have F3 := fun_mk (st := s_rows_within) l3 c3 k3
  have b3 := F3.binds (ps := ["row"]) fun _ _ _ _ _ _ us hl => match us, hl with | [_], _ => rfl
  have m3 := PySem.W.mg_of X G a3
  have F4 := fun_mk (st := s__loops_among) l4 c4 k4
  have b4 := F4.binds (ps := ["rows", "ahead"]) fun _ _ _ _ _ _ us hl => match us, hl with | [_, _], _ => rfl
  have m4 := PySem.W.mg_of X G a4
  have F5 := fun_mk (st := s__check_tops) l5 c5 k5
  have b5 := F5.binds (ps := ["tops"]) fun _ _ _ _ _ _ us hl => match us, hl with | [_], _ => rfl
  have m5 := PySem.W.mg_of X G a5
  have F6 := fun_mk (st := s__check_rows) l6 c6 k6
  have b6 := F6.binds (ps := ["rows", "many", "depth"]) fun _ _ _ _ _ _ us hl => match us, hl with | [_, _, _], _ => rfl
  have m6 := PySem.W.mg_of X G a6
  have F7 := fun_mk (st := s__check_count) l7 c7 k7
  have b7 := F7.binds (ps := ["count"]) fun _ _ _ _ _ _ us hl => match us, hl with | [_], _ => rfl
  have m7 := PySem.W.mg_of X G a7
  have F8 := fun_mk (st := s__check_row) l8 c8 k8
  have b8 := F8.binds (ps := ["row", "many"]) fun _ _ _ _ _ _ us hl => match us, hl with | [_, _], _ => rfl
  have m8 := PySem.W.mg_of X G a8
  have F9 := fun_mk (st := s__are_kept_words) l9 c9 k9
  have b9 := F9.binds (ps := ["words", "many"]) fun _ _ _ _ _ _ us hl => match us, hl with | [_, _], _ => rfl
  have m9 := PySem.W.mg_of X G a9
  have F10 := fun_mk (st := s__is_sum) l10 c10 k10
  have b10 := F10.binds (ps := ["one", "many"]) fun _ _ _ _ _ _ us hl => match us, hl with | [_, _], _ => rfl
  have m10 := PySem.W.mg_of X G a10
  have F11 := fun_mk (st := s__is_from_to) l11 c11 k11
  have b11 := F11.binds (ps := ["number", "least", "most"]) fun _ _ _ _ _ _ us hl => match us, hl with | [_, _, _], _ => rfl
  have m11 := PySem.W.mg_of X G a11
  have F12 := fun_mk (st := s_value) l12 c12 k12
  have b12 := F12.binds (ps := ["one", "filling"]) fun _ _ _ _ _ _ us hl => match us, hl with | [_, _], _ => rfl
  have m12 := PySem.W.mg_of X G a12
  have F13 := fun_mk (st := s_opposite) l13 c13 k13
  have b13 := F13.binds (ps := ["one"]) fun _ _ _ _ _ _ us hl => match us, hl with | [_], _ => rfl
  have m13 := PySem.W.mg_of X G a13
  have F14 := fun_mk (st := s_put_in) l14 c14 k14
  have b14 := F14.binds (ps := ["one", "boxes"]) fun _ _ _ _ _ _ us hl => match us, hl with | [_, _], _ => rfl
  have m14 := PySem.W.mg_of X G a14
  have F15 := fun_mk (st := s_behind) l15 c15 k15
  have b15 := F15.binds (ps := ["program", "place"]) fun _ _ _ _ _ _ us hl => match us, hl with | [_, _], _ => rfl
  have m15 := PySem.W.mg_of X G a15
  have F16 := fun_mk (st := s_beginning) l16 c16 k16
  have b16 := F16.binds (ps := ["program"]) fun _ _ _ _ _ _ us hl => match us, hl with | [_], _ => rfl
  have m16 := PySem.W.mg_of X G a16
  have F17 := fun_mk (st := s_beyond) l17 c17 k17
  have b17 := F17.binds (ps := ["program", "place", "holds"]) fun _ _ _ _ _ _ us hl => match us, hl with | [_, _, _], _ => rfl
  have m17 := PySem.W.mg_of X G a17
  have F18 := fun_mk (st := s_run) l18 c18 k18
  have b18 := F18.binds (ps := ["program", "filling", "most"]) fun _ _ _ _ _ _ us hl => match us, hl with | [_, _, _], _ => rfl
  have m18 := PySem.W.mg_of X G a18
  have F19 := fun_mk (st := s__run_from) l19 c19 k19
  have b19 := F19.binds (ps := ["program", "place", "filling", "most"]) fun _ _ _ _ _ _ us hl => match us, hl with | [_, _, _, _], _ => rfl
  have m19 := PySem.W.mg_of X G a19
  have F20 := fun_mk (st := s__let_without_rounds) l20 c20 k20
  have b20 := F20.binds (ps := ["seen", "here", "many", "most"]) fun _ _ _ _ _ _ us hl => match us, hl with | [_, _, _, _], _ => rfl
  have m20 := PySem.W.mg_of X G a20
  have F21 := fun_mk (st := s__after) l21 c21 k21
  have b21 := F21.binds (ps := ["program", "place", "held"]) fun _ _ _ _ _ _ us hl => match us, hl with | [_, _, _], _ => rfl
  have m21 := PySem.W.mg_of X G a21
  have F22 := fun_mk (st := s__breaks) l22 c22 k22
  have b22 := F22.binds (ps := ["program", "place", "held"]) fun _ _ _ _ _ _ us hl => match us, hl with | [_, _, _], _ => rfl
  have m22 := PySem.W.mg_of X G a22
  have F23 := fun_mk (st := s__rows_around) l23 c23 k23
  have b23 := F23.binds (ps := ["program", "place"]) fun _ _ _ _ _ _ us hl => match us, hl with | [_, _], _ => rfl
  have m23 := PySem.W.mg_of X G a23
  have F24 := fun_mk (st := s_asked) l24 c24 k24
  have b24 := F24.binds (ps := ["program", "place"]) fun _ _ _ _ _ _ us hl => match us, hl with | [_, _], _ => rfl
  have m24 := PySem.W.mg_of X G a24
  have F25 := fun_mk (st := s_tasks) l25 c25 k25
  have b25 := F25.binds (ps := ["program"]) fun _ _ _ _ _ _ us hl => match us, hl with | [_], _ => rfl
  have m25 := PySem.W.mg_of X G a25
  have F26 := fun_mk (st := s__ways) l26 c26 k26
  have b26 := F26.binds (ps := ["program", "start"]) fun _ _ _ _ _ _ us hl => match us, hl with | [_, _], _ => rfl
  have m26 := PySem.W.mg_of X G a26
  have F27 := fun_mk (st := s__beginnings) l27 c27 k27
  have b27 := F27.binds (ps := ["program", "start"]) fun _ _ _ _ _ _ us hl => match us, hl with | [_, _], _ => rfl
  have m27 := PySem.W.mg_of X G a27
  have F28 := fun_mk (st := s__further) l28 c28 k28
  have b28 := F28.binds (ps := ["program", "way"]) fun _ _ _ _ _ _ us hl => match us, hl with | [_, _], _ => rfl
  have m28 := PySem.W.mg_of X G a28
  have F29 := fun_mk (st := s__both) l29 c29 k29
  have b29 := F29.binds (ps := ["program", "way"]) fun _ _ _ _ _ _ us hl => match us, hl with | [_, _], _ => rfl
  have m29 := PySem.W.mg_of X G a29
  have F30 := fun_mk (st := s__of_one_box) l30 c30 k30
  have b30 := F30.binds (ps := ["number", "box", "many"]) fun _ _ _ _ _ _ us hl => match us, hl with | [_, _, _], _ => rfl
  have m30 := PySem.W.mg_of X G a30
  have F31 := fun_mk (st := s_tried) l31 c31 k31
  have b31 := F31.binds (ps := ["stretch", "some"]) fun _ _ _ _ _ _ us hl => match us, hl with | [_, _], _ => rfl
  have m31 := PySem.W.mg_of X G a31
  have F32 := fun_mk (st := s__tried) l32 c32 k32
  have b32 := F32.binds (ps := ["stretch", "ahead"]) fun _ _ _ _ _ _ us hl => match us, hl with | [_, _], _ => rfl
  have m32 := PySem.W.mg_of X G a32
  have F33 := fun_mk (st := s__where_to_cut) l33 c33 k33
  have b33 := F33.binds (ps := ["stretch", "rest"]) fun _ _ _ _ _ _ us hl => match us, hl with | [_, _], _ => rfl
  have m33 := PySem.W.mg_of X G a33
  have F34 := fun_mk (st := s__cut) l34 c34 k34
  have b34 := F34.binds (ps := ["stretch", "box", "at"]) fun _ _ _ _ _ _ us hl => match us, hl with | [_, _, _], _ => rfl
  have m34 := PySem.W.mg_of X G a34
  have F35 := fun_mk (st := s__least_and_most) l35 c35 k35
  have b35 := F35.binds (ps := ["one", "stretch"]) fun _ _ _ _ _ _ us hl => match us, hl with | [_, _], _ => rfl
  have m35 := PySem.W.mg_of X G a35
  have F36 := fun_mk (st := s_judged) l36 c36 k36
  have FJ : FunC K "judged" "judged" s_judged f36 cJ _ := ⟨⟨_, _, _, _, _, _, _, _, rfl, l36, c36⟩⟩
  have b36 := F36.binds (ps := ["program"]) fun _ _ _ _ _ _ us hl => match us, hl with | [_], _ => rfl
  have m36 := PySem.W.mg_of X G a36
  have F37 := fun_mk (st := s__all_within) l37 c37 k37
  have b37 := F37.binds (ps := ["program"]) fun _ _ _ _ _ _ us hl => match us, hl with | [_], _ => rfl
  have m37 := PySem.W.mg_of X G a37
  have F38 := fun_mk (st := s__law_at) l38 c38 k38
  have b38 := F38.binds (ps := ["_law_script", "_law_k"]) fun _ _ _ _ _ _ us hl => match us, hl with | [_, _], _ => rfl
  have m38 := PySem.W.mg_of X G a38
  have F39 := fun_mk (st := s__law_whole) l39 c39 k39
  have b39 := F39.binds (ps := ["_law_thing"]) fun _ _ _ _ _ _ us hl => match us, hl with | [_], _ => rfl
  have m39 := PySem.W.mg_of X G a39
  have F40 := fun_mk (st := s__law_value) l40 c40 k40
  have b40 := F40.binds (ps := ["_law_one", "_law_filling_here"]) fun _ _ _ _ _ _ us hl => match us, hl with | [_, _], _ => rfl
  have m40 := PySem.W.mg_of X G a40
  have F41 := fun_mk (st := s__law_tops) l41 c41 k41
  have b41 := F41.binds (ps := ["_law_script"]) fun _ _ _ _ _ _ us hl => match us, hl with | [_], _ => rfl
  have m41 := PySem.W.mg_of X G a41
  have F42 := fun_mk (st := s__law_unit) l42 c42 k42
  have b42 := F42.binds (ps := ["_law_many", "_law_box", "_law_number", "_law_more"]) fun _ _ _ _ _ _ us hl => match us, hl with | [_, _, _, _], _ => rfl
  have m42 := PySem.W.mg_of X G a42
  have F43 := fun_mk (st := s__law_word) l43 c43 k43
  have b43 := F43.binds (ps := ["_law_cell", "_law_many"]) fun _ _ _ _ _ _ us hl => match us, hl with | [_, _], _ => rfl
  have m43 := PySem.W.mg_of X G a43
  have F44 := fun_mk (st := s__law_into) l44 c44 k44
  have b44 := F44.binds (ps := ["_law_cell", "_law_many", "_law_box"]) fun _ _ _ _ _ _ us hl => match us, hl with | [_, _, _], _ => rfl
  have m44 := PySem.W.mg_of X G a44
  have F45 := fun_mk (st := s__law_row) l45 c45 k45
  have b45 := F45.binds (ps := ["_law_state", "_law_deep"]) fun _ _ _ _ _ _ us hl => match us, hl with | [_, _], _ => rfl
  have m45 := PySem.W.mg_of X G a45
  have F46 := fun_mk (st := s__law_rows) l46 c46 k46
  have b46 := F46.binds (ps := ["_law_state", "_law_deep", "_law_most"]) fun _ _ _ _ _ _ us hl => match us, hl with | [_, _, _], _ => rfl
  have m46 := PySem.W.mg_of X G a46
  have F47 := fun_mk (st := s__law_program) l47 c47 k47
  have b47 := F47.binds (ps := ["_law_script", "_law_most"]) fun _ _ _ _ _ _ us hl => match us, hl with | [_, _], _ => rfl
  have m47 := PySem.W.mg_of X G a47
  have F48 := fun_mk (st := s__law_code) l48 c48 k48
  have b48 := F48.binds (ps := ["_law_rows_here", "_law_ahead", "_law_code_here"]) fun _ _ _ _ _ _ us hl => match us, hl with | [_, _, _], _ => rfl
  have m48 := PySem.W.mg_of X G a48
  have F49 := fun_mk (st := s__law_asked) l49 c49 k49
  have b49 := F49.binds (ps := ["_law_row_here", "_law_tops_here"]) fun _ _ _ _ _ _ us hl => match us, hl with | [_, _], _ => rfl
  have m49 := PySem.W.mg_of X G a49
  have F50 := fun_mk (st := s__law_is_bad) l50 c50 k50
  have b50 := F50.binds (ps := ["_law_one", "_law_tops_here", "_law_held"]) fun _ _ _ _ _ _ us hl => match us, hl with | [_, _, _], _ => rfl
  have m50 := PySem.W.mg_of X G a50
  have F51 := fun_mk (st := s__law_run) l51 c51 k51
  have b51 := F51.binds (ps := ["_law_code_here", "_law_at_here", "_law_tops_here", "_law_filling_here", "_law_most"]) fun _ _ _ _ _ _ us hl => match us, hl with | [_, _, _, _, _], _ => rfl
  have m51 := PySem.W.mg_of X G a51
  have F52 := fun_mk (st := s__law_behind) l52 c52 k52
  have b52 := F52.binds (ps := ["_law_code_here", "_law_at_here"]) fun _ _ _ _ _ _ us hl => match us, hl with | [_, _], _ => rfl
  have m52 := PySem.W.mg_of X G a52
  have F53 := fun_mk (st := s__law_behinds_right) l53 c53 k53
  have b53 := F53.binds (ps := ["_law_program_here", "_law_code_here"]) fun _ _ _ _ _ _ us hl => match us, hl with | [_, _], _ => rfl
  have m53 := PySem.W.mg_of X G a53
  have F54 := fun_mk (st := s__law_same) l54 c54 k54
  have b54 := F54.binds (ps := ["_law_found", "_law_due"]) fun _ _ _ _ _ _ us hl => match us, hl with | [_, _], _ => rfl
  have m54 := PySem.W.mg_of X G a54
  have F55 := fun_mk (st := s__law_refused) l55 c55 k55
  have b55 := F55.binds (ps := ["_law_program_here", "_law_filling_here"]) fun _ _ _ _ _ _ us hl => match us, hl with | [_, _], _ => rfl
  have m55 := PySem.W.mg_of X G a55
  have F56 := fun_mk (st := s__law_filling) l56 c56 k56
  have b56 := F56.binds (ps := ["_law_script", "_law_k", "_law_tops_here"]) fun _ _ _ _ _ _ us hl => match us, hl with | [_, _, _], _ => rfl
  have m56 := PySem.W.mg_of X G a56
  have F57 := fun_mk (st := s_law) l57 c57 k57
  have m57 := PySem.W.mg_of X G a57
  have F58 := fun_mk (st := s_Program___init__) l58 c58 k58
  have b58 := F58.binds (ps := ["self", "tops", "rows"]) fun _ _ _ _ _ _ us hl => match us, hl with | [_, _, _], _ => rfl
  have F59 := fun_mk (st := s_Program_row) l59 c59 k59
  have b59 := F59.binds (ps := ["self", "place"]) fun _ _ _ _ _ _ us hl => match us, hl with | [_, _], _ => rfl
  have F60 := fun_mk (st := s_Program_loops) l60 c60 k60
  have b60 := F60.binds (ps := ["self"]) fun _ _ _ _ _ _ us hl => match us, hl with | [_], _ => rfl
  have F61 := fun_mk (st := s_Program_tops) l61 c61 k61
  have b61 := F61.binds (ps := ["self"]) fun _ _ _ _ _ _ us hl => match us, hl with | [_], _ => rfl
  have B : Bl mg := ⟨PySem.W.mg_none_of X G z_len, PySem.W.mg_none_of X G z_range, PySem.W.mg_none_of X G z_zip, PySem.W.mg_none_of X G z_enumerate, PySem.W.mg_none_of X G z_sum, PySem.W.mg_none_of X G z_all, PySem.W.mg_none_of X G z_tuple, PySem.W.mg_none_of X G z_list, PySem.W.mg_none_of X G z_isinstance, PySem.W.mg_none_of X G z_int, PySem.W.mg_none_of X G z_bool, PySem.W.mg_none_of X G z_str, PySem.W.mg_none_of X G z_type⟩
  have nabs : mg "abs" = none := PySem.W.mg_none_of X G z_abs
  have nsorted : mg "sorted" = none := PySem.W.mg_none_of X G z_sorted
  have nany : mg "any" = none := PySem.W.mg_none_of X G z_any
  have T : Cs mg := ⟨⟨_, PySem.W.mg_of X G n_MOST_BOXES, ⟨_, rfl⟩⟩, ⟨_, PySem.W.mg_of X G n_HIGHEST_TOP, ⟨_, rfl⟩⟩, ⟨_, PySem.W.mg_of X G n_MOST_ROWS, ⟨_, rfl⟩⟩, ⟨_, PySem.W.mg_of X G n_MOST_WITHIN, ⟨_, rfl⟩⟩, ⟨_, PySem.W.mg_of X G n_MOST_KEPT, ⟨_, rfl⟩⟩, ⟨_, PySem.W.mg_of X G n_HIGHEST_NUMBER, ⟨_, rfl⟩⟩, ⟨_, PySem.W.mg_of X G n_HIGHEST_LAST, ⟨_, rfl⟩⟩⟩
  have mC := PySem.W.mg_of X G aC
  have XBadProgram : ExF K mg "BadProgram" EBadProgram := ⟨xBadProgram, PySem.W.mg_of X G aBadProgram, kBadProgram, bBadProgram, tBadProgram⟩
  have XBadFilling : ExF K mg "BadFilling" EBadFilling := ⟨xBadFilling, PySem.W.mg_of X G aBadFilling, kBadFilling, bBadFilling, tBadFilling⟩
  have XNoLoop : ExF K mg "NoLoop" ENoLoop := ⟨xNoLoop, PySem.W.mg_of X G aNoLoop, kNoLoop, bNoLoop, tNoLoop⟩
  have XLoopError : ExF K mg "LoopError" ELoopError := ⟨xLoopError, PySem.W.mg_of X G aLoopError, kLoopError, bLoopError, tLoopError⟩
  have cl : Cls K C := ⟨pg, hd, po, sa⟩
  have cp : ClsP K C := ⟨cl, n1, n2⟩
  refine ⟨PySem.W.fnOf "law" "law" (defArgs s_law) (defBody s_law) (defScope s_law) .none kV57 dc57 pm57 an57 cd57 ct57, [(cJ, PJ)], spLaw K PJ, fun p hp => by rw [List.mem_singleton.mp hp]; exact hTab, fun p hp => by rw [List.mem_singleton.mp hp]; exact hNo, fun p hp => by rw [List.mem_singleton.mp hp]; exact PySem.W.codeHd_of_K X hCode, fun s v => .of_eq rfl, fun H a ns hl _ hT hS => ⟨a, ns, rfl, hS, hl, fun p hp => by rw [List.mem_singleton.mp hp]; exact LamX.TabS.nil (hT _ (List.mem_singleton.mpr rfl)), fun _ => rfl⟩, fun base _ _ hTB => ?_⟩
  have TB : LamX.TabB base mg cJ PJ := hTB _ (List.mem_singleton.mpr rfl)
  have EG : ErrG K mg EBadProgram EBadFilling ENoLoop ELoopError := ⟨⟨e1f, e2f, bBadFilling, df, e3f, e4, e5, e6f⟩, PySem.W.exm_ref bBadFilling df tBadFilling sf, PySem.W.mg_of X G aBadFilling, PySem.W.mg_of X G aBadProgram, PySem.W.mg_of X G aNoLoop, PySem.W.mg_of X G aLoopError, PySem.W.mg_none_of X G zV, qFB, qFN, qFL, qFV⟩
  have g__is_from_to := ok__is_from_to (P := l.prog) (w := w) (mg := mg) (base := base) (k := 0) F11 B
  have g__is_sum := ok__is_sum (P := l.prog) (w := w) (mg := mg) (base := base) (k := 1) F10 B T (calMk g__is_from_to m11 k11 b11 (by decide) : C8.Cal l.prog w K mg base 1 _ _ [])
  have g__are_kept_words := ok__are_kept_words (P := l.prog) (w := w) (mg := mg) (base := base) (k := 2) F9 B T (calMk g__is_sum m10 k10 b10 (by decide) : C8.Cal l.prog w K mg base 2 _ _ [])
  have g_rows_within := ok_rows_within (P := l.prog) (w := w) (mg := mg) (base := base) (k := 0) F3 
  have g__check_count := ok__check_count (P := l.prog) (w := w) (mg := mg) (base := base) (k := 0) F7 B T XBadProgram
  have g__check_row := ok__check_row (P := l.prog) (w := w) (mg := mg) (base := base) (k := 3) F8 B T XBadProgram (calMk g__is_from_to m11 k11 b11 (by decide) : C8.Cal l.prog w K mg base 3 _ _ []) (calMk g__is_sum m10 k10 b10 (by decide) : C8.Cal l.prog w K mg base 3 _ _ []) (calMk g__are_kept_words m9 k9 b9 (by decide) : C8.Cal l.prog w K mg base 3 _ _ [])
  have g__check_rows0 : FnOk l.prog w K mg base (L2.CX l.prog w) 4 f6 _ ["rows", "many", "depth"] (spRows K EBadProgram 0) := vac (fd := (PySem.W.fnOf "_check_rows" "_check_rows" (defArgs s__check_rows) (defBody s__check_rows) (defScope s__check_rows) .none kV6 dc6 pm6 an6 cd6 ct6)) (by rintro vs H Q E ⟨v, d, many, depth, _, _, _, h1, h2, _⟩; omega)
  have g__check_rows1 := ok__check_rows (P := l.prog) (w := w) (mg := mg) (base := base) (k := 4) F6 B T XBadProgram (calXMk g__check_count m7 k7 b7 (by decide) : CalX l.prog w K mg base 4 _ _) (calXMk g__check_row m8 k8 b8 (by decide) : CalX l.prog w K mg base 4 _ _) (calMk g_rows_within m3 k3 b3 (by decide) : C8.Cal l.prog w K mg base 4 _ _ []) (calXMk g__check_rows0 m6 k6 b6 (by decide) : CalX l.prog w K mg base 4 _ _)
  have g__check_rows2 := ok__check_rows (P := l.prog) (w := w) (mg := mg) (base := base) (k := 5) F6 B T XBadProgram (calXMk g__check_count m7 k7 b7 (by decide) : CalX l.prog w K mg base 5 _ _) (calXMk g__check_row m8 k8 b8 (by decide) : CalX l.prog w K mg base 5 _ _) (calMk g_rows_within m3 k3 b3 (by decide) : C8.Cal l.prog w K mg base 5 _ _ []) (calXMk g__check_rows1 m6 k6 b6 (by decide) : CalX l.prog w K mg base 5 _ _)
  have g__check_rows3 := ok__check_rows (P := l.prog) (w := w) (mg := mg) (base := base) (k := 6) F6 B T XBadProgram (calXMk g__check_count m7 k7 b7 (by decide) : CalX l.prog w K mg base 6 _ _) (calXMk g__check_row m8 k8 b8 (by decide) : CalX l.prog w K mg base 6 _ _) (calMk g_rows_within m3 k3 b3 (by decide) : C8.Cal l.prog w K mg base 6 _ _ []) (calXMk g__check_rows2 m6 k6 b6 (by decide) : CalX l.prog w K mg base 6 _ _)
  have g__check_rows4 := ok__check_rows (P := l.prog) (w := w) (mg := mg) (base := base) (k := 7) F6 B T XBadProgram (calXMk g__check_count m7 k7 b7 (by decide) : CalX l.prog w K mg base 7 _ _) (calXMk g__check_row m8 k8 b8 (by decide) : CalX l.prog w K mg base 7 _ _) (calMk g_rows_within m3 k3 b3 (by decide) : C8.Cal l.prog w K mg base 7 _ _ []) (calXMk g__check_rows3 m6 k6 b6 (by decide) : CalX l.prog w K mg base 7 _ _)
  have g__check_rows5 := ok__check_rows (P := l.prog) (w := w) (mg := mg) (base := base) (k := 8) F6 B T XBadProgram (calXMk g__check_count m7 k7 b7 (by decide) : CalX l.prog w K mg base 8 _ _) (calXMk g__check_row m8 k8 b8 (by decide) : CalX l.prog w K mg base 8 _ _) (calMk g_rows_within m3 k3 b3 (by decide) : C8.Cal l.prog w K mg base 8 _ _ []) (calXMk g__check_rows4 m6 k6 b6 (by decide) : CalX l.prog w K mg base 8 _ _)
  have g__check_tops := ok__check_tops (P := l.prog) (w := w) (mg := mg) (base := base) (k := 1) F5 B T XBadProgram (calMk g__is_from_to m11 k11 b11 (by decide) : C8.Cal l.prog w K mg base 1 _ _ [])
  have g_Program___init__ := ok_init (P := l.prog) (w := w) (mg := mg) (base := base) (k := 9) F58 B cp (calXMk g__check_tops m5 k5 b5 (by decide) : CalX l.prog w K mg base 9 _ _) (calXMk g__check_rows5 m6 k6 b6 (by decide) : CalX l.prog w K mg base 9 _ _)
  have qC : ∀ k, 10 ≤ k → CalC l.prog w K mg base k C "Program" (spInit K C EBadProgram) := fun k hk => ⟨f58, _, _, ⟨mk, a58, i58, kc⟩, g_Program___init__.mono hk, b58, mC⟩
  have g_Program_tops := ok_tops (P := l.prog) (w := w) (mg := mg) (base := base) (k := 0) F61 B cp
  have qT : ∀ k, 1 ≤ k → CalP l.prog w K mg base k C "tops" (spTopsP K C) := fun k hk => ⟨pt, f61, _, _, ⟨pp, ps, pk, rt, pr⟩, g_Program_tops.mono hk, b61⟩
  have g__loops_among0 : FnOk l.prog w K mg base CX0 1 f4 _ ["rows", "ahead"] (spLo K 0) := vac (fd := (PySem.W.fnOf "_loops_among" "_loops_among" (defArgs s__loops_among) (defBody s__loops_among) (defScope s__loops_among) .none kV4 dc4 pm4 an4 cd4 ct4)) (by rintro vs H Q E ⟨many, a, b, xs, rows, ahead, _, _, _, _, _, h1, _⟩; omega)
  have g__loops_among1 := ok__loops_among (P := l.prog) (w := w) (mg := mg) (base := base) (k := 1) F4 B (calMk g_rows_within m3 k3 b3 (by decide) : C8.Cal l.prog w K mg base 1 _ _ []) (calMk g__loops_among0 m4 k4 b4 (by decide) : C8.Cal l.prog w K mg base 1 _ _ [])
  have g__loops_among2 := ok__loops_among (P := l.prog) (w := w) (mg := mg) (base := base) (k := 2) F4 B (calMk g_rows_within m3 k3 b3 (by decide) : C8.Cal l.prog w K mg base 2 _ _ []) (calMk g__loops_among1 m4 k4 b4 (by decide) : C8.Cal l.prog w K mg base 2 _ _ [])
  have g__loops_among3 := ok__loops_among (P := l.prog) (w := w) (mg := mg) (base := base) (k := 3) F4 B (calMk g_rows_within m3 k3 b3 (by decide) : C8.Cal l.prog w K mg base 3 _ _ []) (calMk g__loops_among2 m4 k4 b4 (by decide) : C8.Cal l.prog w K mg base 3 _ _ [])
  have g__loops_among4 := ok__loops_among (P := l.prog) (w := w) (mg := mg) (base := base) (k := 4) F4 B (calMk g_rows_within m3 k3 b3 (by decide) : C8.Cal l.prog w K mg base 4 _ _ []) (calMk g__loops_among3 m4 k4 b4 (by decide) : C8.Cal l.prog w K mg base 4 _ _ [])
  have g_Program_loops := ok_loops (P := l.prog) (w := w) (mg := mg) (base := base) (k := 5) F60 cp (calMk g__loops_among4 m4 k4 b4 (by decide) : C8.Cal l.prog w K mg base 5 _ _ [])
  have qL : ∀ k, 6 ≤ k → CalM l.prog w K mg base k C "loops" (spLoops K C) := fun k hk => ⟨f60, _, _, ⟨a60, i60, k60⟩, g_Program_loops.mono hk, b60⟩
  have g_Program_row := ok_row (P := l.prog) (w := w) (mg := mg) (base := base) (k := 1) F59 B cp (calMk g_rows_within m3 k3 b3 (by decide) : C8.Cal l.prog w K mg base 1 _ _ [])
  have qR : ∀ k, 2 ≤ k → CalM l.prog w K mg base k C "row" (spRowAt K C) := fun k hk => ⟨f59, _, _, ⟨a59, i59, k59⟩, g_Program_row.mono hk, b59⟩
  have g__rows_around := ok__rows_around (P := l.prog) (w := w) (mg := mg) (base := base) (k := 2) F23 B cp cl (qR 2 (by decide)) (calMk g_rows_within m3 k3 b3 (by decide) : C8.Cal l.prog w K mg base 2 _ _ [])
  have g_behind := ok_behind (P := l.prog) (w := w) (mg := mg) (base := base) (k := 3) F15 B cl (qR 3 (by decide)) (calMk g__rows_around m23 k23 b23 (by decide) : C8.Cal l.prog w K mg base 3 _ _ [])
  have g_beginning := ok_beginning (P := l.prog) (w := w) (mg := mg) (base := base) (k := 0) F16 B cp
  have g_beyond := ok_beyond (P := l.prog) (w := w) (mg := mg) (base := base) (k := 4) F17 B cl (qR 4 (by decide)) (calMk g_rows_within m3 k3 b3 (by decide) : C8.Cal l.prog w K mg base 4 _ _ []) (calMk g_behind m15 k15 b15 (by decide) : C8.Cal l.prog w K mg base 4 _ _ [])
  have g_value := ok_value (P := l.prog) (w := w) (mg := mg) (base := base) (k := 0) F12 B
  have g_opposite := ok_opposite (P := l.prog) (w := w) (mg := mg) (base := base) (k := 0) F13 B
  have g_put_in := ok_put_in (P := l.prog) (w := w) (mg := mg) (base := base) (k := 1) F14 B (calMk g_value m12 k12 b12 (by decide) : C8.Cal l.prog w K mg base 1 _ _ [])
  have g__of_one_box := ok__of_one_box (P := l.prog) (w := w) (mg := mg) (base := base) (k := 0) F30 B
  have g_asked := ok_asked (P := l.prog) (w := w) (mg := mg) (base := base) (k := 1) F24 B cl (qR 2 (by decide)) (qT 1 (by decide)) (calMk g__of_one_box m30 k30 b30 (by decide) : C8.Cal l.prog w K mg base 2 _ _ [])
  have g__both := ok__both (P := l.prog) (w := w) (mg := mg) (base := base) (k := 5) F29 B cl (qR 5 (by decide)) (calMk g_put_in m14 k14 b14 (by decide) : C8.Cal l.prog w K mg base 5 _ _ []) (calMk g_opposite m13 k13 b13 (by decide) : C8.Cal l.prog w K mg base 5 _ _ []) (calMk g_beyond m17 k17 b17 (by decide) : C8.Cal l.prog w K mg base 5 _ _ [])
  have g__further := ok__further (P := l.prog) (w := w) (mg := mg) (base := base) (k := 6) F28 B cl (qR 6 (by decide)) (calMk g_put_in m14 k14 b14 (by decide) : C8.Cal l.prog w K mg base 6 _ _ []) (calMk g__both m29 k29 b29 (by decide) : C8.Cal l.prog w K mg base 6 _ _ []) (calMk g_behind m15 k15 b15 (by decide) : C8.Cal l.prog w K mg base 6 _ _ [])
  have g__beginnings := ok__beginnings (P := l.prog) (w := w) (mg := mg) (base := base) (k := 5) F27 B cl (qR 6 (by decide)) (qT 5 (by decide)) (calMk g__of_one_box m30 k30 b30 (by decide) : C8.Cal l.prog w K mg base 6 _ _ []) (calMk g_beginning m16 k16 b16 (by decide) : C8.Cal l.prog w K mg base 6 _ _ []) (calMk g__both m29 k29 b29 (by decide) : C8.Cal l.prog w K mg base 6 _ _ [])
  have g__ways := ok__ways (P := l.prog) (w := w) (mg := mg) (base := base) (k := 7) F26 B cl (qR 7 (by decide)) (calMk g__beginnings m27 k27 b27 (by decide) : C8.Cal l.prog w K mg base 7 _ _ []) (calMk g__further m28 k28 b28 (by decide) : C8.Cal l.prog w K mg base 7 _ _ [])
  have g_tasks := ok_tasks (P := l.prog) (w := w) (mg := mg) (base := base) (k := 7) F25 B cl (qL 8 (by decide)) (calMk g__ways m26 k26 b26 (by decide) : C8.Cal l.prog w K mg base 8 _ _ []) (calMk g_asked m24 k24 b24 (by decide) : C8.Cal l.prog w K mg base 8 _ _ []) (calMk g_put_in m14 k14 b14 (by decide) : C8.Cal l.prog w K mg base 8 _ _ []) (calMk g_opposite m13 k13 b13 (by decide) : C8.Cal l.prog w K mg base 8 _ _ [])
  have g_is_filling := ok_is_filling (P := l.prog) (w := w) (mg := mg) (base := base) (k := 1) F1 B cl (qT 1 (by decide))
  have g_is_within := ok_is_within (P := l.prog) (w := w) (mg := mg) (base := base) (k := 1) F2 B cl (qT 2 (by decide)) (calMk g_is_filling m1 k1 b1 (by decide) : C8.Cal l.prog w K mg base 3 _ _ [])
  have g__least_and_most := ok__least_and_most (P := l.prog) (w := w) (mg := mg) (base := base) (k := 0) F35 B
  have g__cut := ok__cut (P := l.prog) (w := w) (mg := mg) (base := base) (k := 0) F34 B
  have g__where_to_cut := ok__where_to_cut (P := l.prog) (w := w) (mg := mg) (base := base) (k := 1) F33 B nabs (calMk g__least_and_most m35 k35 b35 (by decide) : C8.Cal l.prog w K mg base 1 _ _ [])
  have g__tried : ∀ i : Nat, FnOk l.prog w K mg base CX0 (i + 2) f32 (PySem.W.fnOf "_tried" "_tried" (defArgs s__tried) (defBody s__tried) (defScope s__tried) .none kV32 dc32 pm32 an32 cd32 ct32) ["stretch", "ahead"] (spTr K i) := by
    intro i
    induction i with
    | zero => exact vac (by rintro vs H Q E ⟨a, r, ws, rs, st, ps, ss, _, _, _, _, _, _, _, _, _, h1, _⟩; omega)
    | succ i ih => exact ok__tried (P := l.prog) (w := w) (mg := mg) (base := base) (k := i + 2) F32 B (calMk g__least_and_most m35 k35 b35 (by omega)) (calMk g__where_to_cut m33 k33 b33 (by omega)) (calMk g__cut m34 k34 b34 (by omega)) (calMk ih m32 k32 b32 (by omega))
  have g_tried := ok_tried (P := l.prog) (w := w) (mg := mg) (base := base) (k := 63) F31 B (calMk (g__tried 61) m32 k32 b32 (by decide) : C8.Cal l.prog w K mg base 63 _ _ [])
  have g__all_within := ok__all_within (P := l.prog) (w := w) (mg := mg) (base := base) (k := 1) F37 B cl (qT 1 (by decide))
  have g_judged := ok_judged (P := l.prog) (w := w) (mg := mg) (base := base) (k := 64) FJ B nsorted TB (calMk g_tasks m25 k25 b25 (by decide) : C8.Cal l.prog w K mg base 64 _ _ []) (calMk g__all_within m37 k37 b37 (by decide) : C8.Cal l.prog w K mg base 64 _ _ []) (calMk g_tried m31 k31 b31 (by decide) : C8.Cal l.prog w K mg base 64 _ _ [])
  have g__law_at := ok__law_at (P := l.prog) (w := w) (mg := mg) (base := base) (k := 0) F38 B
  have g__law_tops := ok__law_tops (P := l.prog) (w := w) (mg := mg) (base := base) (k := 1) F41 B (calMk g__law_at m38 k38 b38 (by decide) : C8.Cal l.prog w K mg base 1 _ _ [])
  have g__law_unit := ok__law_unit (P := l.prog) (w := w) (mg := mg) (base := base) (k := 0) F42 B
  have g__law_word := ok__law_word (P := l.prog) (w := w) (mg := mg) (base := base) (k := 1) F43 B (calMk g__law_unit m42 k42 b42 (by decide) : C8.Cal l.prog w K mg base 1 _ _ [])
  have g__law_into := ok__law_into (P := l.prog) (w := w) (mg := mg) (base := base) (k := 2) F44 B (calMk g__law_unit m42 k42 b42 (by decide) : C8.Cal l.prog w K mg base 2 _ _ []) (calMk g__law_word m43 k43 b43 (by decide) : C8.Cal l.prog w K mg base 2 _ _ [])
  have g__law_rows0 : FnOk l.prog w K mg base CX0 3 f46 _ ["_law_state", "_law_deep", "_law_most"] (spGRows K 0) := vac (fd := (PySem.W.fnOf "_law_rows" "_law_rows" (defArgs s__law_rows) (defBody s__law_rows) (defScope s__law_rows) .none kV46 dc46 pm46 an46 cd46 ct46)) (by rintro vs H Q E ⟨ds, sc, tp, script, tops, p, l, di, most, _, _, h1, _⟩; omega)
  have g__law_row0 := ok__law_row (P := l.prog) (w := w) (mg := mg) (base := base) (k := 3) F45 B (calMk g__law_at m38 k38 b38 (by decide) : C8.Cal l.prog w K mg base 3 _ _ []) (calMk g__law_into m44 k44 b44 (by decide) : C8.Cal l.prog w K mg base 3 _ _ []) (calMk g__law_word m43 k43 b43 (by decide) : C8.Cal l.prog w K mg base 3 _ _ []) (calMk g__law_unit m42 k42 b42 (by decide) : C8.Cal l.prog w K mg base 3 _ _ []) (calMk g__law_rows0 m46 k46 b46 (by decide) : C8.Cal l.prog w K mg base 3 _ _ [])
  have g__law_rows1 := ok__law_rows (P := l.prog) (w := w) (mg := mg) (base := base) (k := 4) F46 B (calMk g__law_row0 m45 k45 b45 (by decide) : C8.Cal l.prog w K mg base 4 _ _ [])
  have g__law_row1 := ok__law_row (P := l.prog) (w := w) (mg := mg) (base := base) (k := 5) F45 B (calMk g__law_at m38 k38 b38 (by decide) : C8.Cal l.prog w K mg base 5 _ _ []) (calMk g__law_into m44 k44 b44 (by decide) : C8.Cal l.prog w K mg base 5 _ _ []) (calMk g__law_word m43 k43 b43 (by decide) : C8.Cal l.prog w K mg base 5 _ _ []) (calMk g__law_unit m42 k42 b42 (by decide) : C8.Cal l.prog w K mg base 5 _ _ []) (calMk g__law_rows1 m46 k46 b46 (by decide) : C8.Cal l.prog w K mg base 5 _ _ [])
  have g__law_rows2 := ok__law_rows (P := l.prog) (w := w) (mg := mg) (base := base) (k := 6) F46 B (calMk g__law_row1 m45 k45 b45 (by decide) : C8.Cal l.prog w K mg base 6 _ _ [])
  have g__law_row2 := ok__law_row (P := l.prog) (w := w) (mg := mg) (base := base) (k := 7) F45 B (calMk g__law_at m38 k38 b38 (by decide) : C8.Cal l.prog w K mg base 7 _ _ []) (calMk g__law_into m44 k44 b44 (by decide) : C8.Cal l.prog w K mg base 7 _ _ []) (calMk g__law_word m43 k43 b43 (by decide) : C8.Cal l.prog w K mg base 7 _ _ []) (calMk g__law_unit m42 k42 b42 (by decide) : C8.Cal l.prog w K mg base 7 _ _ []) (calMk g__law_rows2 m46 k46 b46 (by decide) : C8.Cal l.prog w K mg base 7 _ _ [])
  have g__law_rows3 := ok__law_rows (P := l.prog) (w := w) (mg := mg) (base := base) (k := 8) F46 B (calMk g__law_row2 m45 k45 b45 (by decide) : C8.Cal l.prog w K mg base 8 _ _ [])
  have g__law_row3 := ok__law_row (P := l.prog) (w := w) (mg := mg) (base := base) (k := 9) F45 B (calMk g__law_at m38 k38 b38 (by decide) : C8.Cal l.prog w K mg base 9 _ _ []) (calMk g__law_into m44 k44 b44 (by decide) : C8.Cal l.prog w K mg base 9 _ _ []) (calMk g__law_word m43 k43 b43 (by decide) : C8.Cal l.prog w K mg base 9 _ _ []) (calMk g__law_unit m42 k42 b42 (by decide) : C8.Cal l.prog w K mg base 9 _ _ []) (calMk g__law_rows3 m46 k46 b46 (by decide) : C8.Cal l.prog w K mg base 9 _ _ [])
  have g__law_rows4 := ok__law_rows (P := l.prog) (w := w) (mg := mg) (base := base) (k := 10) F46 B (calMk g__law_row3 m45 k45 b45 (by decide) : C8.Cal l.prog w K mg base 10 _ _ [])
  have g__law_program := ok__law_program (P := l.prog) (w := w) (mg := mg) (base := base) (k := 11) F47 B (calMk g__law_at m38 k38 b38 (by decide) : C8.Cal l.prog w K mg base 11 _ _ []) (calMk g__law_tops m41 k41 b41 (by decide) : C8.Cal l.prog w K mg base 11 _ _ []) (calMk g__law_rows4 m46 k46 b46 (by decide) : C8.Cal l.prog w K mg base 11 _ _ [])
  have g__breaks := ok__breaks (P := l.prog) (w := w) (mg := mg) (base := base) (k := 4) F22 B nany cl (qR 4 (by decide)) (calMk g_value m12 k12 b12 (by decide) : C8.Cal l.prog w K mg base 4 _ _ []) (calMk g_is_within m2 k2 b2 (by decide) : C8.Cal l.prog w K mg base 4 _ _ [])
  have g__after := ok__after (P := l.prog) (w := w) (mg := mg) (base := base) (k := 5) F21 B cl (qR 5 (by decide)) (calMk g_value m12 k12 b12 (by decide) : C8.Cal l.prog w K mg base 5 _ _ []) (calMk g_beyond m17 k17 b17 (by decide) : C8.Cal l.prog w K mg base 5 _ _ []) (calMk g_behind m15 k15 b15 (by decide) : C8.Cal l.prog w K mg base 5 _ _ [])
  have g__let_without_rounds := ok__let_without_rounds (P := l.prog) (w := w) (mg := mg) (base := base) (k := 0) F20 B
  have g__run_from := ok__run_from (P := l.prog) (w := w) (mg := mg) (base := base) (k := 6) F19 B cl (qR 6 (by decide)) (calMk g__let_without_rounds m20 k20 b20 (by decide) : C8.Cal l.prog w K mg base 6 _ _ []) (calMk g__breaks m22 k22 b22 (by decide) : C8.Cal l.prog w K mg base 6 _ _ []) (calMk g__after m21 k21 b21 (by decide) : C8.Cal l.prog w K mg base 6 _ _ [])
  have g_run := ok_run (P := l.prog) (w := w) (mg := mg) (base := base) (k := 7) F18 B XBadFilling (calMk g_is_filling m1 k1 b1 (by decide) : C8.Cal l.prog w K mg base 7 _ _ []) (calMk g_beginning m16 k16 b16 (by decide) : C8.Cal l.prog w K mg base 7 _ _ []) (calMk g__run_from m19 k19 b19 (by decide) : C8.Cal l.prog w K mg base 7 _ _ [])
  have g__law_refused := ok__law_refused (P := l.prog) (w := w) (mg := mg) (base := base) (k := 8) F55 B EG XBadFilling (calXMk g_run m18 k18 b18 (by decide) : CalX l.prog w K mg base 8 _ _)
  have g__law_whole := ok__law_whole (P := l.prog) (w := w) (mg := mg) (base := base) (k := 0) F39 B
  have g__law_value := ok__law_value (P := l.prog) (w := w) (mg := mg) (base := base) (k := 0) F40 B
  have g__law_asked := ok__law_asked (P := l.prog) (w := w) (mg := mg) (base := base) (k := 1) F49 B (calMk g__law_unit m42 k42 b42 (by decide) : C8.Cal l.prog w K mg base 1 _ _ [])
  have g__law_is_bad := ok__law_is_bad (P := l.prog) (w := w) (mg := mg) (base := base) (k := 2) F50 B (calMk g__law_value m40 k40 b40 (by decide) : C8.Cal l.prog w K mg base 2 _ _ []) (calMk g__law_asked m49 k49 b49 (by decide) : C8.Cal l.prog w K mg base 2 _ _ [])
  have g__law_run := ok__law_run (P := l.prog) (w := w) (mg := mg) (base := base) (k := 3) F51 B (calMk g__law_value m40 k40 b40 (by decide) : C8.Cal l.prog w K mg base 3 _ _ []) (calMk g__law_is_bad m50 k50 b50 (by decide) : C8.Cal l.prog w K mg base 3 _ _ [])
  have g__law_code0 : FnOk l.prog w K mg base CX0 1 f48 _ ["_law_rows_here", "_law_ahead", "_law_code_here"] (spCode K 0) := vac (fd := (PySem.W.fnOf "_law_code" "_law_code" (defArgs s__law_code) (defBody s__law_code) (defScope s__law_code) .none kV48 dc48 pm48 an48 cd48 ct48)) (by rintro vs H Q E ⟨a, b, L, xs, us, R, ah, fr, pre, _, _, _, _, _, _, h1, _⟩; omega)
  have g__law_code1 := ok__law_code (P := l.prog) (w := w) (mg := mg) (base := base) (k := 1) F48 B (calMk g__law_code0 m48 k48 b48 (by decide) : C8.Cal l.prog w K mg base 1 _ _ [])
  have g__law_code2 := ok__law_code (P := l.prog) (w := w) (mg := mg) (base := base) (k := 2) F48 B (calMk g__law_code1 m48 k48 b48 (by decide) : C8.Cal l.prog w K mg base 2 _ _ [])
  have g__law_code3 := ok__law_code (P := l.prog) (w := w) (mg := mg) (base := base) (k := 3) F48 B (calMk g__law_code2 m48 k48 b48 (by decide) : C8.Cal l.prog w K mg base 3 _ _ [])
  have g__law_code4 := ok__law_code (P := l.prog) (w := w) (mg := mg) (base := base) (k := 4) F48 B (calMk g__law_code3 m48 k48 b48 (by decide) : C8.Cal l.prog w K mg base 4 _ _ [])
  have g__law_behind := ok__law_behind (P := l.prog) (w := w) (mg := mg) (base := base) (k := 0) F52 B
  have g__law_behinds_right := ok__law_behinds_right (P := l.prog) (w := w) (mg := mg) (base := base) (k := 4) F53 B (calMk g_behind m15 k15 b15 (by decide) : C8.Cal l.prog w K mg base 4 _ _ []) (calMk g__law_behind m52 k52 b52 (by decide) : C8.Cal l.prog w K mg base 4 _ _ [])
  have g__law_same := ok__law_same (P := l.prog) (w := w) (mg := mg) (base := base) (k := 1) F54 B (calMk g__law_whole m39 k39 b39 (by decide) : C8.Cal l.prog w K mg base 1 _ _ [])
  have g__law_filling := ok__law_filling (P := l.prog) (w := w) (mg := mg) (base := base) (k := 1) F56 B (calMk g__law_at m38 k38 b38 (by decide) : C8.Cal l.prog w K mg base 1 _ _ [])
  exact ok_law (k := 64) F57 B cl (calMk g__law_program m47 k47 b47 (by decide) : C8.Cal l.prog w K mg base 65 _ _ []) (calMk g__law_at m38 k38 b38 (by decide) : C8.Cal l.prog w K mg base 65 _ _ []) (calMk g__law_code4 m48 k48 b48 (by decide) : C8.Cal l.prog w K mg base 65 _ _ []) (calMk g__law_filling m56 k56 b56 (by decide) : C8.Cal l.prog w K mg base 65 _ _ []) (calMk g__law_refused m55 k55 b55 (by decide) : C8.Cal l.prog w K mg base 65 _ _ []) (calMk g_judged m36 k36 b36 (by decide) : C8.Cal l.prog w K mg base 65 _ _ []) (calMk g__law_behinds_right m53 k53 b53 (by decide) : C8.Cal l.prog w K mg base 65 _ _ []) (calXMk g_run m18 k18 b18 (by decide) : CalX l.prog w K mg base 65 _ _) (calMk g__law_run m51 k51 b51 (by decide) : C8.Cal l.prog w K mg base 65 _ _ []) (calMk g__law_same m54 k54 b54 (by decide) : C8.Cal l.prog w K mg base 65 _ _ []) (qT 64 (by decide)) (qC 64 (by decide))
theorem walk {l : PySem.W.OpenLaw} {q : Program} {loose : List Str} {XP : (Str → Option Value) → Heap → Prop} {YP : World → Heap → Prop} {d : DefRec} {K : Params → PySem.W.Frag} (hn : l.most = some 63) (hdf : d.params.defaults = [])
    (hY : ∀ (w : World) (h : Heap), YP w h → (K w.params).In h)
    (F : ∀ (w : World) (mg : Str → Option Value) (fa : Addr) (h : Heap), YP w h → (K w.params).In h → h.Ns mainGlobals mg → mg d.name = some (.ref fa) → LamX.LawAtS l w (K w.params) CX0 66 63 "_law_script" mg fa h) :
    PySem.W.WalkO q loose XP YP l.row.toRowW d [] (fun f vs => PySem.call f vs) :=
  LamX.walk_ofTs (n := 63) (k := 66) (x := "_law_script") (CX := fun _ => CX0) hn (by decide) hdf ⟨rfl, by decide, by decide⟩ hY F fun _ _ _ _ _ z => z
end LW
open PySem PySem.W PyProof.Rows
set_option maxRecDepth 100000 in
set_option maxHeartbeats 0 in
theorem PySem.Challenge.cw_loopwords_k03_runs_holds : PySem.Challenge.rw_loopwords_k03_runs.Holds := by
  w_on; o_law; k_head; (case hw => w_witness2)
  k_fill
  refine LW.walk (l := PySem.Challenge.rw_loopwords_k03_runs) rfl rfl (fun w h Y => PySem.W.km_in_of Y) ?F
  case F =>
    intro w mg fa h Y KX G hmg
    refine' LW.all_mk KX G hmg ?aC ?aBadProgram ?aBadFilling ?aNoLoop ?aLoopError ?a1 ?l1 ?c1 ?k1 ?a2 ?l2 ?c2 ?k2 ?a3 ?l3 ?c3 ?k3 ?a4 ?l4 ?c4 ?k4 ?a5 ?l5 ?c5 ?k5 ?a6 ?l6 ?c6 ?k6 ?a7 ?l7 ?c7 ?k7 ?a8 ?l8 ?c8 ?k8 ?a9 ?l9 ?c9 ?k9 ?a10 ?l10 ?c10 ?k10 ?a11 ?l11 ?c11 ?k11 ?a12 ?l12 ?c12 ?k12 ?a13 ?l13 ?c13 ?k13 ?a14 ?l14 ?c14 ?k14 ?a15 ?l15 ?c15 ?k15 ?a16 ?l16 ?c16 ?k16 ?a17 ?l17 ?c17 ?k17 ?a18 ?l18 ?c18 ?k18 ?a19 ?l19 ?c19 ?k19 ?a20 ?l20 ?c20 ?k20 ?a21 ?l21 ?c21 ?k21 ?a22 ?l22 ?c22 ?k22 ?a23 ?l23 ?c23 ?k23 ?a24 ?l24 ?c24 ?k24 ?a25 ?l25 ?c25 ?k25 ?a26 ?l26 ?c26 ?k26 ?a27 ?l27 ?c27 ?k27 ?a28 ?l28 ?c28 ?k28 ?a29 ?l29 ?c29 ?k29 ?a30 ?l30 ?c30 ?k30 ?a31 ?l31 ?c31 ?k31 ?a32 ?l32 ?c32 ?k32 ?a33 ?l33 ?c33 ?k33 ?a34 ?l34 ?c34 ?k34 ?a35 ?l35 ?c35 ?k35 ?a36 ?l36 ?c36 ?k36 ?a37 ?l37 ?c37 ?k37 ?a38 ?l38 ?c38 ?k38 ?a39 ?l39 ?c39 ?k39 ?a40 ?l40 ?c40 ?k40 ?a41 ?l41 ?c41 ?k41 ?a42 ?l42 ?c42 ?k42 ?a43 ?l43 ?c43 ?k43 ?a44 ?l44 ?c44 ?k44 ?a45 ?l45 ?c45 ?k45 ?a46 ?l46 ?c46 ?k46 ?a47 ?l47 ?c47 ?k47 ?a48 ?l48 ?c48 ?k48 ?a49 ?l49 ?c49 ?k49 ?a50 ?l50 ?c50 ?k50 ?a51 ?l51 ?c51 ?k51 ?a52 ?l52 ?c52 ?k52 ?a53 ?l53 ?c53 ?k53 ?a54 ?l54 ?c54 ?k54 ?a55 ?l55 ?c55 ?k55 ?a56 ?l56 ?c56 ?k56 ?a57 ?l57 ?c57 ?k57 ?a58 ?i58 ?l58 ?c58 ?k58 ?a59 ?i59 ?l59 ?c59 ?k59 ?a60 ?i60 ?l60 ?c60 ?k60 ?pp ?ps ?pk ?pr ?l61 ?c61 ?k61 ?pg ?hd ?po ?sa ?mk ?kc ?n1 ?n2 ?xBadProgram ?kBadProgram ?bBadProgram ?tBadProgram ?xBadFilling ?kBadFilling ?bBadFilling ?tBadFilling ?xNoLoop ?kNoLoop ?bNoLoop ?tNoLoop ?xLoopError ?kLoopError ?bLoopError ?tLoopError ?n_MOST_BOXES ?n_HIGHEST_TOP ?n_MOST_ROWS ?n_MOST_WITHIN ?n_MOST_KEPT ?n_HIGHEST_NUMBER ?n_HIGHEST_LAST ?hTab ?hCode ?hNo ?e1f ?e2f ?e3f ?df ?e6f ?sf ?e4 ?e5 ?zV ?qFN ?qFB ?qFL ?qFV ?z_len ?z_range ?z_zip ?z_enumerate ?z_sum ?z_all ?z_tuple ?z_list ?z_isinstance ?z_int ?z_bool ?z_str ?z_type ?z_abs ?z_sorted ?z_any
    (case aC => k_is)
    (case aBadProgram => k_is)
    (case aBadFilling => k_is)
    (case aNoLoop => k_is)
    (case aLoopError => k_is)
    (case a1 => k_is)
    (case l1 => k_is)
    (case c1 => k_is)
    (case k1 => k_is)
    (case a2 => k_is)
    (case l2 => k_is)
    (case c2 => k_is)
    (case k2 => k_is)
    (case a3 => k_is)
    (case l3 => k_is)
    (case c3 => k_is)
    (case k3 => k_is)
    (case a4 => k_is)
    (case l4 => k_is)
    (case c4 => k_is)
    (case k4 => k_is)
    (case a5 => k_is)
    (case l5 => k_is)
    (case c5 => k_is)
    (case k5 => k_is)
    (case a6 => k_is)
    (case l6 => k_is)
    (case c6 => k_is)
    (case k6 => k_is)
    (case a7 => k_is)
    (case l7 => k_is)
    (case c7 => k_is)
    (case k7 => k_is)
    (case a8 => k_is)
    (case l8 => k_is)
    (case c8 => k_is)
    (case k8 => k_is)
    (case a9 => k_is)
    (case l9 => k_is)
    (case c9 => k_is)
    (case k9 => k_is)
    (case a10 => k_is)
    (case l10 => k_is)
    (case c10 => k_is)
    (case k10 => k_is)
    (case a11 => k_is)
    (case l11 => k_is)
    (case c11 => k_is)
    (case k11 => k_is)
    (case a12 => k_is)
    (case l12 => k_is)
    (case c12 => k_is)
    (case k12 => k_is)
    (case a13 => k_is)
    (case l13 => k_is)
    (case c13 => k_is)
    (case k13 => k_is)
    (case a14 => k_is)
    (case l14 => k_is)
    (case c14 => k_is)
    (case k14 => k_is)
    (case a15 => k_is)
    (case l15 => k_is)
    (case c15 => k_is)
    (case k15 => k_is)
    (case a16 => k_is)
    (case l16 => k_is)
    (case c16 => k_is)
    (case k16 => k_is)
    (case a17 => k_is)
    (case l17 => k_is)
    (case c17 => k_is)
    (case k17 => k_is)
    (case a18 => k_is)
    (case l18 => k_is)
    (case c18 => k_is)
    (case k18 => k_is)
    (case a19 => k_is)
    (case l19 => k_is)
    (case c19 => k_is)
    (case k19 => k_is)
    (case a20 => k_is)
    (case l20 => k_is)
    (case c20 => k_is)
    (case k20 => k_is)
    (case a21 => k_is)
    (case l21 => k_is)
    (case c21 => k_is)
    (case k21 => k_is)
    (case a22 => k_is)
    (case l22 => k_is)
    (case c22 => k_is)
    (case k22 => k_is)
    (case a23 => k_is)
    (case l23 => k_is)
    (case c23 => k_is)
    (case k23 => k_is)
    (case a24 => k_is)
    (case l24 => k_is)
    (case c24 => k_is)
    (case k24 => k_is)
    (case a25 => k_is)
    (case l25 => k_is)
    (case c25 => k_is)
    (case k25 => k_is)
    (case a26 => k_is)
    (case l26 => k_is)
    (case c26 => k_is)
    (case k26 => k_is)
    (case a27 => k_is)
    (case l27 => k_is)
    (case c27 => k_is)
    (case k27 => k_is)
    (case a28 => k_is)
    (case l28 => k_is)
    (case c28 => k_is)
    (case k28 => k_is)
    (case a29 => k_is)
    (case l29 => k_is)
    (case c29 => k_is)
    (case k29 => k_is)
    (case a30 => k_is)
    (case l30 => k_is)
    (case c30 => k_is)
    (case k30 => k_is)
    (case a31 => k_is)
    (case l31 => k_is)
    (case c31 => k_is)
    (case k31 => k_is)
    (case a32 => k_is)
    (case l32 => k_is)
    (case c32 => k_is)
    (case k32 => k_is)
    (case a33 => k_is)
    (case l33 => k_is)
    (case c33 => k_is)
    (case k33 => k_is)
    (case a34 => k_is)
    (case l34 => k_is)
    (case c34 => k_is)
    (case k34 => k_is)
    (case a35 => k_is)
    (case l35 => k_is)
    (case c35 => k_is)
    (case k35 => k_is)
    (case a36 => k_is)
    (case l36 => k_is)
    (case c36 => k_is)
    (case k36 => k_is)
    (case a37 => k_is)
    (case l37 => k_is)
    (case c37 => k_is)
    (case k37 => k_is)
    (case a38 => k_is)
    (case l38 => k_is)
    (case c38 => k_is)
    (case k38 => k_is)
    (case a39 => k_is)
    (case l39 => k_is)
    (case c39 => k_is)
    (case k39 => k_is)
    (case a40 => k_is)
    (case l40 => k_is)
    (case c40 => k_is)
    (case k40 => k_is)
    (case a41 => k_is)
    (case l41 => k_is)
    (case c41 => k_is)
    (case k41 => k_is)
    (case a42 => k_is)
    (case l42 => k_is)
    (case c42 => k_is)
    (case k42 => k_is)
    (case a43 => k_is)
    (case l43 => k_is)
    (case c43 => k_is)
    (case k43 => k_is)
    (case a44 => k_is)
    (case l44 => k_is)
    (case c44 => k_is)
    (case k44 => k_is)
    (case a45 => k_is)
    (case l45 => k_is)
    (case c45 => k_is)
    (case k45 => k_is)
    (case a46 => k_is)
    (case l46 => k_is)
    (case c46 => k_is)
    (case k46 => k_is)
    (case a47 => k_is)
    (case l47 => k_is)
    (case c47 => k_is)
    (case k47 => k_is)
    (case a48 => k_is)
    (case l48 => k_is)
    (case c48 => k_is)
    (case k48 => k_is)
    (case a49 => k_is)
    (case l49 => k_is)
    (case c49 => k_is)
    (case k49 => k_is)
    (case a50 => k_is)
    (case l50 => k_is)
    (case c50 => k_is)
    (case k50 => k_is)
    (case a51 => k_is)
    (case l51 => k_is)
    (case c51 => k_is)
    (case k51 => k_is)
    (case a52 => k_is)
    (case l52 => k_is)
    (case c52 => k_is)
    (case k52 => k_is)
    (case a53 => k_is)
    (case l53 => k_is)
    (case c53 => k_is)
    (case k53 => k_is)
    (case a54 => k_is)
    (case l54 => k_is)
    (case c54 => k_is)
    (case k54 => k_is)
    (case a55 => k_is)
    (case l55 => k_is)
    (case c55 => k_is)
    (case k55 => k_is)
    (case a56 => k_is)
    (case l56 => k_is)
    (case c56 => k_is)
    (case k56 => k_is)
    (case a57 => k_is)
    (case l57 => k_is)
    (case c57 => k_is)
    (case k57 => k_is)
    (case a58 => k_is)
    (case i58 => k_is)
    (case l58 => k_is)
    (case c58 => k_is)
    (case k58 => k_is)
    (case a59 => k_is)
    (case i59 => k_is)
    (case l59 => k_is)
    (case c59 => k_is)
    (case k59 => k_is)
    (case a60 => k_is)
    (case i60 => k_is)
    (case l60 => k_is)
    (case c60 => k_is)
    (case k60 => k_is)
    (case pp => k_is)
    (case ps => k_is)
    (case pk => k_is)
    (case pr => k_is)
    (case l61 => k_is)
    (case c61 => k_is)
    (case k61 => k_is)
    (case pg => k_is)
    (case hd => k_is)
    (case po => k_is)
    (case sa => k_is)
    (case mk => k_is)
    (case kc => k_is)
    (case n1 => k_is)
    (case n2 => k_is)
    (case xBadProgram => k_exc)
    (case kBadProgram => k_is)
    (case bBadProgram => k_is)
    (case tBadProgram => k_is)
    (case xBadFilling => k_exc)
    (case kBadFilling => k_is)
    (case bBadFilling => k_is)
    (case tBadFilling => k_is)
    (case xNoLoop => k_exc)
    (case kNoLoop => k_is)
    (case bNoLoop => k_is)
    (case tNoLoop => k_is)
    (case xLoopError => k_exc)
    (case kLoopError => k_is)
    (case bLoopError => k_is)
    (case tLoopError => k_is)
    (case n_MOST_BOXES => k_is)
    (case n_HIGHEST_TOP => k_is)
    (case n_MOST_ROWS => k_is)
    (case n_MOST_WITHIN => k_is)
    (case n_MOST_KEPT => k_is)
    (case n_HIGHEST_NUMBER => k_is)
    (case n_HIGHEST_LAST => k_is)
    (case hTab => exact PySem.W.km_tabs_of Y _ (List.mem_cons_self ..))
    (case e1f => k_is)
    (case e2f => k_is)
    (case e3f => k_is)
    (case df => k_is)
    (case e6f => k_is)
    (case sf => k_is)
    (case e4 => k_is)
    (case e5 => k_is)
    (case zV => k_is)
    (case qFN => first | k_is | (decide +kernel) | rfl)
    (case qFB => first | k_is | (decide +kernel) | rfl)
    (case qFL => first | k_is | (decide +kernel) | rfl)
    (case qFV => first | k_is | (decide +kernel) | rfl)
    (case z_len => k_is)
    (case z_range => k_is)
    (case z_zip => k_is)
    (case z_enumerate => k_is)
    (case z_sum => k_is)
    (case z_all => k_is)
    (case z_tuple => k_is)
    (case z_list => k_is)
    (case z_isinstance => k_is)
    (case z_int => k_is)
    (case z_bool => k_is)
    (case z_str => k_is)
    (case z_type => k_is)
    (case z_abs => k_is)
    (case z_sorted => k_is)
    (case z_any => k_is)
    (case hCode => kernel_rfl)
    (case hNo => kernel_rfl)
