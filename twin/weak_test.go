package twin_test

import (
	"crypto/sha256"
	"encoding/json"
	"os"
	"os/exec"
	"path/filepath"
	"strings"
	"testing"

	"scrinium/api"
)

// weakOf is the hash of s that weakSource makes: one of four.
func weakOf(s string) api.Sum {
	h := sha256.Sum256([]byte(s))
	return api.Sum{31: h[0] & 3}
}

// weakSource stands in for package sha where twins must be found: no two unlike texts are known that have one hash by sha itself.
const weakSource = `package sha

import (
	"crypto/sha256"
	"strings"

	"scrinium/api"
)

func Of(parts ...string) api.Sum {
	h := sha256.Sum256([]byte(strings.Join(parts, "")))
	return api.Sum{31: h[0] & 3}
}

func Bytes(s api.Sum) string { return string(s[:]) }
`

// weakOverlay is the file that tells the go command to build weakSource in the place of package sha.
func weakOverlay(t *testing.T) string {
	t.Helper()
	dir := t.TempDir()
	write := func(name string, data []byte) string {
		name = filepath.Join(dir, name)
		if err := os.WriteFile(name, data, 0o600); err != nil {
			t.Fatal(err)
		}
		return name
	}
	files, err := filepath.Glob(filepath.Join("..", "sha", "*.go"))
	if err != nil || len(files) == 0 {
		t.Fatalf("package sha has no files: %v", err)
	}
	replace := map[string]string{}
	for _, f := range files {
		whole, err := filepath.Abs(f)
		if err != nil {
			t.Fatal(err)
		}
		replace[whole] = "" // no such file
	}
	whole, err := filepath.Abs(filepath.Join("..", "sha", "sha.go"))
	if err != nil {
		t.Fatal(err)
	}
	replace[whole] = write("sha.go", []byte(weakSource))
	overlay, err := json.Marshal(map[string]any{"Replace": replace})
	if err != nil {
		t.Fatal(err)
	}
	return write("overlay.json", overlay)
}

// P13.1, P13.2: all tests of this package once more, under a hash by which there are twins: that these are told, and which, is tried there alone.
func TestUnderAWeakHash(t *testing.T) {
	if weak() {
		return
	}
	run := exec.Command("go", "test", "-v", "-vet=off", "-overlay", weakOverlay(t), ".")
	out, err := run.CombinedOutput()
	if err != nil {
		t.Fatalf("under a weak hash: %v\n%s", err, out)
	}
	for _, name := range []string{"TestAre", "TestData", "TestAllLeavesOfSmallTrees", "TestAllLinksOfSmallTrees", "TestUnlikeLeavesLeadToTwins", "TestUnlikeElderRootsLeadToTwins", "TestElderRootsAreNotAsked", "FuzzTwins"} {
		isBool(t, name+" has run under a weak hash", strings.Contains(string(out), "--- PASS: "+name+" "), true)
	}
	isBool(t, "the hash was weak", strings.Contains(string(out), "--- SKIP: TestKnownWay "), true)
}
