package pool_test

import (
	"math"
	"runtime"
	"slices"
	"strconv"
	"sync"
	"sync/atomic"
	"testing"
	"time"

	"umpire/api"
	"umpire/pool"
	"umpire/testkit"
)

// upTo is the numbers from 0 to n - 1.
func upTo(n int) []int {
	list := make([]int, n)
	for i := range list {
		list[i] = i
	}
	return list
}

// slowly lets those with an even place take longer, so that workers overtake one another.
func slowly(i int) {
	if i%2 == 0 {
		time.Sleep(time.Duration(i%5) * 20 * time.Microsecond)
	}
}

// someWorkers is how many workers the tests let do a job.
var someWorkers = []int{1, 2, 3, 7, api.MaxWorkers}

// P17.1
func TestMap(t *testing.T) {
	for _, workers := range someWorkers {
		if got, err := pool.Map(workers, []int{1, 2, 3}, func(i, x int) int { return i + 10*x }); err != nil || !slices.Equal(got, []int{10, 21, 32}) {
			t.Errorf("%d workers: Map = %v, %v", workers, got, err)
		}
		asked := make([]atomic.Int32, api.MaxJobs)
		in := upTo(api.MaxJobs)
		got, err := pool.Map(workers, in, func(i, x int) string {
			slowly(i)
			asked[i].Add(1)
			return strconv.Itoa(i - x)
		})
		if err != nil || len(got) != api.MaxJobs || slices.ContainsFunc(got, func(s string) bool { return s != "0" }) {
			t.Errorf("%d workers: Map of MaxJobs = %v, %v", workers, got, err)
		}
		for i := range asked {
			if asked[i].Load() != 1 {
				t.Errorf("%d workers: asked of %d %d times", workers, i, asked[i].Load())
			}
		}
	}
	if got, err := pool.Map(4, nil, func(i int, x string) int { return 5 }); err != nil || len(got) != 0 {
		t.Errorf("Map of nothing = %v, %v", got, err)
	}
}

// faulty is workers and jobs that are none, with what is said of them.
var faulty = []struct {
	workers, jobs int
	want          error
}{
	{0, 3, api.ErrIndex}, {-1, 3, api.ErrIndex}, {17, 3, api.ErrIndex}, {math.MinInt, 0, api.ErrIndex}, {math.MaxInt, 0, api.ErrIndex}, {0, api.MaxJobs + 1, api.ErrIndex}, {17, api.MaxJobs + 1, api.ErrIndex},
	{1, api.MaxJobs + 1, api.ErrMany}, {16, api.MaxJobs + 1, api.ErrMany},
}

// P17.1, P17.2, P17.3, P17.4, P17.5
func TestFaults(t *testing.T) {
	for _, c := range faulty {
		in := upTo(c.jobs)
		asked := atomic.Int32{}
		ask := func(i, x int) int {
			asked.Add(1)
			return 1
		}
		if got, err := pool.Map(c.workers, in, ask); err != c.want || len(got) != 0 {
			t.Errorf("%+v: Map = %v, %v", c, got, err)
		}
		if at, ok, err := pool.First(c.workers, in, func(i, x int) bool { return ask(i, x) == 1 }); err != c.want || at != 0 || ok {
			t.Errorf("%+v: First = %d, %v, %v", c, at, ok, err)
		}
		for _, done := range []<-chan struct{}{nil, pool.Shut(), pool.Never()} {
			if got, err := pool.Stop(done, c.workers, in, ask); err != c.want || len(got) != 0 {
				t.Errorf("%+v: Stop = %v, %v", c, got, err)
			}
		}
		if got, err := pool.Fold(c.workers, in, ask, 5, func(a, b int) int { return ask(a, b) + a }); err != c.want || got != 0 {
			t.Errorf("%+v: Fold = %v, %v", c, got, err)
		}
		if got, err := pool.Merge(c.workers, make([][]int, c.jobs), func(a, b int) bool { return ask(a, b) == 1 }); err != c.want || len(got) != 0 {
			t.Errorf("%+v: Merge = %v, %v", c, got, err)
		}
		if asked.Load() != 0 {
			t.Errorf("%+v: beside an error something was asked", c)
		}
	}
}

// P17.2
func TestFirst(t *testing.T) {
	even := func(i, x int) bool { return x%2 == 0 }
	for _, workers := range someWorkers {
		if at, ok, err := pool.First(workers, []int{1, 2, 3, 4}, even); at != 1 || !ok || err != nil {
			t.Errorf("%d workers: First = %d, %v, %v", workers, at, ok, err)
		}
		if at, ok, err := pool.First(workers, []int{1, 3}, even); at != 0 || ok || err != nil {
			t.Errorf("%d workers: First of none = %d, %v, %v", workers, at, ok, err)
		}
		if at, ok, err := pool.First(workers, nil, even); at != 0 || ok || err != nil {
			t.Errorf("%d workers: First of nothing = %d, %v, %v", workers, at, ok, err)
		}
		for _, want := range []int{0, 1, 50, 99, 100} {
			asked := make([]atomic.Int32, 100)
			at, ok, err := pool.First(workers, upTo(100), func(i, x int) bool {
				asked[i].Add(1)
				if i == want {
					time.Sleep(300 * time.Microsecond)
				}
				slowly(i)
				return i >= want
			})
			if err != nil || ok != (want < 100) || ok && at != want || !ok && at != 0 {
				t.Errorf("%d workers: First = %d, %v, %v, not %d", workers, at, ok, err, want)
			}
			for i := range asked {
				if n := asked[i].Load(); n > 1 || i < want && n != 1 {
					t.Errorf("%d workers: asked of %d %d times", workers, i, n)
				}
			}
		}
	}
}

// P17.3
func TestStop(t *testing.T) {
	for _, workers := range someWorkers {
		for _, done := range []<-chan struct{}{nil, pool.Never(), make(chan struct{}, 3)} {
			if got, err := pool.Stop(done, workers, []int{1, 2}, func(i, x int) int { return x + 1 }); err != nil || !slices.Equal(got, []int{2, 3}) {
				t.Errorf("%d workers: Stop = %v, %v", workers, got, err)
			}
			if got, err := pool.Stop(done, workers, nil, func(i, x int) int { return x }); err != nil || len(got) != 0 {
				t.Errorf("%d workers: Stop of nothing = %v, %v", workers, got, err)
			}
		}
		closed := make(chan struct{}, 3)
		close(closed)
		for _, done := range []<-chan struct{}{pool.Shut(), closed} {
			asked := atomic.Int32{}
			if got, err := pool.Stop(done, workers, upTo(50), func(i, x int) int { return int(asked.Add(1)) }); err != api.ErrStop || len(got) != 0 || asked.Load() != 0 {
				t.Errorf("%d workers: Stop of a closed channel = %v, %v, asked %d times", workers, got, err, asked.Load())
			}
		}
		if got, err := pool.Stop(pool.Shut(), workers, nil, func(i, x int) int { return x }); err != api.ErrStop || len(got) != 0 {
			t.Errorf("%d workers: Stop of a closed channel and nothing = %v, %v", workers, got, err)
		}
	}
}

// P17.3: closed meanwhile, it is one of both, and nothing goes on.
func TestStoppedMeanwhile(t *testing.T) {
	for round := range 60 {
		done := make(chan struct{})
		asked := make([]atomic.Int32, 100)
		var group sync.WaitGroup
		got, err := pool.Stop(done, 1+round%16, upTo(100), func(i, x int) int {
			if asked[i].Add(1); i == round {
				group.Go(func() { close(done) })
			}
			slowly(i)
			return x
		})
		sum := int32(0)
		for i := range asked {
			if asked[i].Load() > 1 {
				t.Errorf("asked of %d %d times", i, asked[i].Load())
			}
			sum += asked[i].Load()
		}
		group.Wait()
		if err == nil && !slices.Equal(got, upTo(100)) || err != nil && (err != api.ErrStop || len(got) != 0) {
			t.Errorf("Stop = %v, %v", got, err)
		}
		time.Sleep(50 * time.Microsecond)
		for i := range asked {
			sum -= asked[i].Load()
		}
		if sum != 0 {
			t.Errorf("it goes on behind the answer")
		}
	}
}

// P17.3
func TestShutAndNever(t *testing.T) {
	select {
	case _, open := <-pool.Shut():
		if open {
			t.Error("Shut is open")
		}
	default:
		t.Error("Shut is not closed")
	}
	select {
	case <-pool.Never():
		t.Error("Never is closed")
	default:
	}
}

// P17.4
func TestFold(t *testing.T) {
	minus := func(a, b int) int { return a - b }
	for _, workers := range someWorkers {
		if got, err := pool.Fold(workers, []int{1, 2, 3}, func(i, x int) int { return x }, 0, minus); got != -6 || err != nil {
			t.Errorf("%d workers: Fold = %d, %v", workers, got, err)
		}
		if got, err := pool.Fold(workers, nil, func(i, x int) int { return x }, 7, minus); got != 7 || err != nil {
			t.Errorf("%d workers: Fold of nothing = %d, %v", workers, got, err)
		}
		got, err := pool.Fold(workers, upTo(30), func(i, x int) string {
			slowly(i)
			return strconv.Itoa(x)
		}, "z", func(a, b string) string { return "(" + a + b + ")" })
		want := "z"
		for i := range 30 {
			want = "(" + want + strconv.Itoa(i) + ")"
		}
		if got != want || err != nil {
			t.Errorf("%d workers: Fold = %q, %v", workers, got, err)
		}
	}
}

// A job is an element that tells which list it is of.
type job struct{ key, list int }

// plainMerge is Merge, just as the chapter says it.
func plainMerge(lists [][]job, less func(a, b job) bool) []job {
	left := slices.Clone(lists)
	var out []job
	for {
		picked := -1
		for i := range left {
			if len(left[i]) > 0 && (picked < 0 || less(left[i][0], left[picked][0])) {
				picked = i
			}
		}
		if picked < 0 {
			return out
		}
		out = append(out, left[picked][0])
		left[picked] = left[picked][1:]
	}
}

// P17.5
func TestMerge(t *testing.T) {
	dice := testkit.NewDice(1)
	if got, err := pool.Merge(2, [][]int{{1, 5}, {2, 3}}, func(a, b int) bool { return a < b }); err != nil || !slices.Equal(got, []int{1, 2, 3, 5}) {
		t.Errorf("Merge = %v, %v", got, err)
	}
	orders := map[string]func(a, b job) bool{
		"rising": func(a, b job) bool { return a.key < b.key }, "falling": func(a, b job) bool { return a.key > b.key }, "never": func(a, b job) bool { return false }, "always": func(a, b job) bool { return true }, "no order": func(a, b job) bool { return (a.key+b.list)%2 == 0 },
	}
	for name, less := range orders {
		for range 40 {
			lists := make([][]job, dice.Roll(6))
			for i := range lists {
				for range dice.Roll(6) {
					lists[i] = append(lists[i], job{dice.Roll(5), i})
				}
			}
			busy := atomic.Int32{}
			got, err := pool.Merge(testkit.Pick(dice, someWorkers), lists, func(a, b job) bool {
				if busy.Add(1) != 1 {
					t.Error("asked by two at a time")
				}
				defer busy.Add(-1)
				return less(a, b)
			})
			if want := plainMerge(lists, less); err != nil || !slices.Equal(got, want) {
				t.Fatalf("%s: Merge(%v) = %v, %v, not %v", name, lists, got, err, want)
			}
		}
	}
}

// P17.5
func TestMergeOfMany(t *testing.T) {
	less := func(a, b int) bool { return a < b }
	lists := slices.Repeat([][]int{{1}}, api.MaxJobs)
	if got, err := pool.Merge(3, lists, less); err != nil || len(got) != api.MaxJobs {
		t.Errorf("Merge of MaxJobs = %d, %v", len(got), err)
	}
	lists[7] = []int{1, 2}
	if got, err := pool.Merge(3, lists, less); err != api.ErrMany || len(got) != 0 {
		t.Errorf("Merge of one more = %d, %v", len(got), err)
	}
	if got, err := pool.Merge(3, [][]int{make([]int, api.MaxJobs), {}, {1}}, less); err != api.ErrMany || len(got) != 0 {
		t.Errorf("Merge of one more in two lists = %d, %v", len(got), err)
	}
	if got, err := pool.Merge(3, [][]int{make([]int, api.MaxJobs), nil}, less); err != nil || len(got) != api.MaxJobs {
		t.Errorf("Merge of one list of MaxJobs = %d, %v", len(got), err)
	}
	if got, err := pool.Merge(1, nil, less); err != nil || len(got) != 0 {
		t.Errorf("Merge of nothing = %v, %v", got, err)
	}
}

// P17.6
func TestNewMemory(t *testing.T) {
	in := append(make([]int, 0, 9), 1, 2, 3)
	same := func(i, x int) int { return x }
	for name, call := range map[string]func() ([]int, error){
		"Map": func() ([]int, error) { return pool.Map(2, in, same) }, "Stop": func() ([]int, error) { return pool.Stop(nil, 2, in, same) },
		"Merge": func() ([]int, error) { return pool.Merge(2, [][]int{in}, func(a, b int) bool { return a < b }) },
	} {
		a, _ := call()
		b, _ := call()
		_ = append(a, 9)
		clear(a[:cap(a)])
		if !slices.Equal(b, []int{1, 2, 3}) || !slices.Equal(in[:9], []int{1, 2, 3, 0, 0, 0, 0, 0, 0}) {
			t.Errorf("%s shares memory: %v, %v", name, b, in[:9])
		}
	}
	lists := [][]int{{1, 2}, {3}}
	pool.Merge(2, lists, func(a, b int) bool { return a < b })
	if !slices.Equal(lists[0], []int{1, 2}) || !slices.Equal(lists[1], []int{3}) {
		t.Error("Merge changed its lists", lists)
	}
}

// P17.6
func TestNothingGoesOn(t *testing.T) {
	before := runtime.NumGoroutine()
	for i := range 30 {
		pool.Map(16, upTo(100), func(i, x int) int { slowly(i); return x })
		pool.First(16, upTo(100), func(i, x int) bool { slowly(i); return x > 10 })
		pool.Stop(pool.Never(), 1+i%16, upTo(50), func(i, x int) int { return x })
		pool.Stop(pool.Shut(), 16, upTo(50), func(i, x int) int { return x })
		pool.Fold(3, upTo(50), func(i, x int) int { return x }, 0, greater)
		pool.Merge(16, [][]int{upTo(50), upTo(20)}, func(a, b int) bool { return a < b })
	}
	for range 100 {
		if runtime.NumGoroutine() <= before {
			return
		}
		time.Sleep(time.Millisecond)
	}
	t.Errorf("%d goroutines, %d before", runtime.NumGoroutine(), before)
}

// greater is the greater one.
func greater(a, b int) int { return max(a, b) }

// P17.6, P17.7
func TestWhatFollows(t *testing.T) {
	dice := testkit.NewDice(2)
	for range 40 {
		a, b := upTo(dice.Roll(20)), upTo(dice.Roll(20))
		w := testkit.Pick(dice, someWorkers)
		square := func(i, x int) int { slowly(i); return x*x - 7*x }
		ab, _ := pool.Map(w, slices.Concat(a, b), square)
		ma, _ := pool.Map(1, a, square)
		mb, _ := pool.Map(16, b, square)
		if !slices.Equal(ab, slices.Concat(ma, mb)) {
			t.Fatalf("%v and %v: Map = %v", a, b, ab)
		}
		odd := func(i, x int) bool { return square(i, x)%3 == 1 }
		bools, _ := pool.Map(w, a, odd)
		at, ok, err := pool.First(w, a, odd)
		if want := slices.Index(bools, true); err != nil || ok != (want >= 0) || ok && at != want {
			t.Fatalf("%v: First = %d, %v, %v", a, at, ok, err)
		}
		one, _ := pool.Fold(w, a, func(i, x int) []int { return []int{square(i, x)} }, nil, func(p, q []int) []int { return slices.Concat(p, q) })
		if !slices.Equal(one, ma) {
			t.Fatalf("%v: Fold = %v, not %v", a, one, ma)
		}
		merged, _ := pool.Merge(w, [][]int{a, b, a}, func(x, y int) bool { return x < y })
		if !slices.IsSorted(merged) || len(merged) != 2*len(a)+len(b) {
			t.Fatalf("Merge = %v", merged)
		}
	}
}
