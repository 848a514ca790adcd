"""The order in which questions are answered that hang on the answers to others."""


# What is told of the question. tell(question, known) tells it, known being a dict of what was told of others,
# or ("ask", another) if it lacks what is told of another one.
# A list of what waits stands in for calls within calls, so that no depth is too great; each question is answered once.
def settled(question, tell):
    known = {}
    waiting = [question]
    while len(waiting) > 0:
        told = tell(waiting[-1], known)
        if told[0] == "ask":
            waiting.append(told[1])
        else:
            known[waiting.pop()] = told
    return known[question]
